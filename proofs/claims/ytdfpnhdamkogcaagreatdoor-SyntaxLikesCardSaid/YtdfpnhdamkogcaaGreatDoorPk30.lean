/-
  Some texts of one proof, one behind the other.
-/
import Derived.Deep.RegionLaw
import Derived.Deep.RegionHeld3
import Derived.Deep.Cut
import Derived.Deep.DeepCutAuto
import Derived.SizedLaws
import Derived.OpenShut
import Derived.SliceStrings
import Derived.ProofKit
import Derived.Test.YtdfpnhdamkogcaaGreatDoorPk4
import Derived.Test.YtdfpnhdamkogcaaGreatDoorPk12
import Derived.Test.YtdfpnhdamkogcaaGreatDoorPk26
set_option linter.unusedVariables false
set_option linter.unusedSimpArgs false

/-
  A slice of pieces, with its room; one of the call's own; all but the first one.
-/
namespace Go.Proofs.YtdfpnhdamkogcaaGreatDoor
open Go.RowKit Go.Lib

def IsPcy (w : World) (v : Value) (ps : List Mt.Pc) : Prop := ∃ a cap, v = .slice a ps.length cap ∧ ps.length ≤ cap ∧ Hid (∀ j (hj : j < ps.length), ∃ b off, a = some ⟨b, off, none⟩ ∧ b < w.heap.size ∧ w.cell? ⟨b, off + j * 2, none⟩ = some (.int .i64 ps[j].1) ∧ w.cell? ⟨b, off + j * 2 + 1, none⟩ = some (.string (Mt.str ps[j].2)))
section
variable {w u : World} {v : Value} {ps : List Mt.Pc}
theorem IsPcy.below (h : IsPcy w v ps) (hb : Below w.heap.size w u) : IsPcy u v ps := by
  obtain ⟨a, cap, e, hc, h⟩ := h
  refine ⟨a, cap, e, hc, Lib.hid fun j hj => ?_⟩
  obtain ⟨b, off, h0, h1, h2, h3⟩ := h.out j hj
  exact ⟨b, off, h0, Nat.lt_of_lt_of_le h1 hb.size, (hb.cell (p := ⟨b, _, none⟩) h1).trans h2, (hb.cell (p := ⟨b, _, none⟩) h1).trans h3⟩
theorem IsPcy.tail {a : Option Addr} {n cap : Nat} {p : Mt.Pc} {r : List Mt.Pc} (h : IsPcy w (.slice a n cap) (p :: r)) : IsPcy w (.slice (if cap = 1 then a else a.map (·.add 2)) r.length (cap - 1)) r := by
  obtain ⟨a', cap', e, hc, h⟩ := h
  cases e
  rw [List.length_cons] at hc
  refine ⟨_, _, rfl, by omega, Lib.hid fun j hj => ?_⟩
  obtain ⟨b, off, h0, h1, h2, h3⟩ := h.out (j + 1) (by rw [List.length_cons]; omega)
  rw [if_neg (by omega), h0]
  refine ⟨b, off + 2, rfl, h1, ?_, ?_⟩
  · rw [show off + 2 + j * 2 = off + (j + 1) * 2 by omega]; exact h2
  · rw [show off + 2 + j * 2 + 1 = off + (j + 1) * 2 + 1 by omega]; exact h3
end
theorem Tryz.infoPiece : (Tryz.prog.info? 38).map (fun i => (i.zero, i.size, i.bytes)) = some (some (.agg #[.int .i64 0, .string ByteArray.empty]), 2, 24) := by kernel_rfl
/-- The cells of pieces. -/
def pcs (r : List Mt.Pc) : List Value := r.flatMap fun a => [.int .i64 a.1, .string (Mt.str a.2)]
theorem pcs_append (a b : List Mt.Pc) : pcs (a ++ b) = pcs a ++ pcs b := by simp [pcs]
theorem pcs_one (r : List Mt.Pc) : ∀ u ∈ pcs r, u.oneCell' = true := by
  intro u hu
  simp only [pcs, List.mem_flatMap] at hu
  obtain ⟨a, _, h⟩ := hu
  simp at h
  rcases h with rfl | rfl <;> rfl
theorem pcs_get : ∀ (r : List Mt.Pc) (j : Nat) (hj : j < r.length), (pcs r)[j * 2]? = some (.int .i64 r[j].1) ∧ (pcs r)[j * 2 + 1]? = some (.string (Mt.str r[j].2))
  | [], j, hj => by simp at hj
  | a :: r, 0, _ => ⟨rfl, rfl⟩
  | a :: r, j + 1, hj => by
    have h := pcs_get r j (by simpa using hj)
    have e : pcs (a :: r) = .int .i64 a.1 :: .string (Mt.str a.2) :: pcs r := rfl
    rw [e, show (j + 1) * 2 = j * 2 + 2 by omega]
    exact h
theorem IsOwn.pcs {base : Nat} {w : World} {v : Value} {r : List Mt.Pc} (h : IsOwn 38 2 base w v r.length (pcs r)) : IsPcy w v r := by
  obtain ⟨g, _, hl, h⟩ := h
  rcases h with ⟨h0, rfl⟩ | ⟨off, cap, cur, rfl, h2, h3, h4, h5⟩
  · have : r = [] := List.eq_nil_of_length_eq_zero h0
    subst this
    exact ⟨none, 0, rfl, by simp, Lib.hid fun j hj => absurd hj (by simp)⟩
  · refine ⟨_, cap, rfl, h3, Lib.hid fun j hj => ⟨g, off, rfl, lt_of_block h2, ?_⟩⟩
    have hc : ∀ i u, (YtdfpnhdamkogcaaGreatDoor.pcs r)[i]? = some u → w.cell? ⟨g, off + i, none⟩ = some u := fun i u hu => by
      rw [cell_of_row w g _ cur 38 (0, 0) h2]
      have hi : i < (YtdfpnhdamkogcaaGreatDoor.pcs r).length := by
        rcases Nat.lt_or_ge i (YtdfpnhdamkogcaaGreatDoor.pcs r).length with h | h
        · exact h
        · rw [List.getElem?_eq_none h] at hu; cases hu
      rw [h5 i hi]
      rw [List.getElem?_eq_getElem hi] at hu; exact hu
    have hg := pcs_get r j hj
    exact ⟨hc _ _ hg.1, by rw [Nat.add_assoc]; exact hc _ _ hg.2⟩
end Go.Proofs.YtdfpnhdamkogcaaGreatDoor

/-
  Whether pieces stand in a text, as the document has it: every place is tried.
-/
namespace Go.Proofs.YtdfpnhdamkogcaaGreatDoor
open Go.RowKit Go.Lib

theorem extP_data (d : ByteArray) (a b : Nat) : (d.extract a b).data.toList = (d.data.toList.drop a).take (b - a) := by
  have h := extract_toList d a b
  rw [ByteArray.toList_eq] at h
  exact h
theorem extP_size (d : ByteArray) (a b : Nat) (h : b ≤ d.size) : (d.extract a b).size = b - a := by
  have e : (d.extract a b).data.toList.length = (d.extract a b).size := rfl
  have e2 : d.data.toList.length = d.size := rfl
  rw [← e, extP_data, List.length_take, List.length_drop]
  omega
set_option maxRecDepth 100000 in
theorem addP_wrap {k m : Nat} (h : k ≤ 4097) (hm : m ≤ 140737488351232) : IntKind.i64.wrap ((k : Int) + (m : Int)) = (k : Int) + (m : Int) := by
  have e : ((k : Int) + (m : Int)) = ((k + m : Nat) : Int) := by omega
  rw [e, IntKind.wrap_i64]
  have : k + m < 9223372036854775808 := by omega
  generalize k + m = n at *
  omega

theorem addP_le (k m : Nat) : (k : Int) ≤ (k : Int) + (m : Int) := by omega
theorem addP_le2 {k m n : Nat} (h : k + m ≤ n) : (k : Int) + (m : Int) ≤ (n : Int) := by omega
theorem addP_yes {k m n : Nat} (h : k + m ≤ n) : decide ((k : Int) + (m : Int) ≤ (n : Int)) = true := decide_eq_true (by omega)
theorem addP_no {k m n : Nat} (h : ¬ k + m ≤ n) : decide ((k : Int) + (m : Int) ≤ (n : Int)) = false := decide_eq_false (by omega)
end Go.Proofs.YtdfpnhdamkogcaaGreatDoor

/-
  Whether pieces stand in a text, as the document has it: where the first one's kind is 0.
-/
namespace Go.Proofs.YtdfpnhdamkogcaaGreatDoor
open Go.RowKit Go.Lib

set_option maxRecDepth 100000 in
set_option maxHeartbeats 1000000 in
theorem rfits_c0 (t : List UInt8) (r : List Mt.Pc) (s : ByteArray) {w : World} {v : Value} (h : IsPcy w v ((0, t) :: r)) (htl : t.length ≤ 140737488351232) (hs : s.size ≤ 4096)
    (IH : ∀ (s2 : ByteArray) {u : World} {v2 : Value}, IsPcy u v2 r → s2.size ≤ 4096 → Calls Tryz.prog 35 #[.string s2, v2] u fun e w' => e = .returned (.bool (Mt.hasPs id s2.data.toList r)) ∧ Below u.heap.size u w') :
    Calls Tryz.prog 35 #[.string s, v] w fun e w' => e = .returned (.bool (Mt.hasPs id s.data.toList ((0, t) :: r))) ∧ Below w.heap.size w w' := by
  obtain ⟨a, cap, rfl, hcap, HP⟩ := id h
  have HH := Lib.hid h
  have HIH := Lib.hid (fun (u : World) (hu : Below w.heap.size w u) (n : Nat) => IH (s.extract n s.size) (h.tail.below hu) (by rw [extP_size s n s.size (Nat.le_refl _)]; omega))
  obtain ⟨b, off, rfl, hbl, c0, c1⟩ := HP.out 0 (by simp)
  simp only [Nat.zero_mul, Nat.add_zero, List.getElem_cons_zero] at c0 c1
  have HCELL := Lib.hid (fun (u : World) (hu : Below w.heap.size w u) => (show u.cell? ⟨b, off, none⟩ = some (.int .i64 0) ∧ u.cell? ⟨b, off + 1, none⟩ = some (.string (Mt.str t)) from ⟨(hu.cell (p := ⟨b, off, none⟩) hbl).trans c0, (hu.cell (p := ⟨b, off + 1, none⟩) hbl).trans c1⟩))
  have HTL := Lib.hid (show (Mt.str t).size = t.length from Mt.str_size t)
  have hsl : s.data.toList.length = s.size := rfl
  obtain ⟨R, hR⟩ : ∃ R, Mt.hasPs id s.data.toList ((0, t) :: r) = R := ⟨_, rfl⟩
  have HR := Lib.hid hR
  have HP0 := Lib.hid (Mt.past_zero hR)
  rw [hR]
  obtain ⟨x0, x1⟩ := HCELL.out w (Below.refl _ _)
  have hl1 : (List.length ((0, t) :: r) : Int) = (r.length : Int) + 1 := by simp
  obtain ⟨n, hn⟩ : ∃ n, List.length ((0, t) :: r) = n := ⟨_, rfl⟩
  have hn1 : n = r.length + 1 := by rw [← hn]; simp
  rw [hn] at hl1 hcap ⊢
  have hn0 : ((n : Int) == 0) = false := beq_eq_false_iff_ne.2 (by omega)
  have hn0' : (n == 0) = false := beq_eq_false_iff_ne.2 (by omega)
  have hnp : (0 : Int) < (n : Int) := by omega
  have hnp' : 0 < n := by omega
  have HTS := Lib.hid (Mt.str_size t)
  obtain ⟨T, hT⟩ : ∃ T, Mt.str t = T := ⟨_, rfl⟩
  have HTD := Lib.hid (show T.data.toList = t by rw [← hT]; exact Mt.str_data t)
  have hts : T.size ≤ 140737488351232 := by rw [← hT, Mt.str_size]; exact htl
  rw [hT] at x1 HCELL HTL HTS
  clear h HP hR hn hT htl c0 c1 IH
  go_enter Tryz.func35, Tryz.ntmps35
  go_wp2_with fail
  go_loopw [6] (fun iv wr => ∃ k : Nat, k ≤ s.size + 1 ∧ iv = .int .i64 (k : Int) ∧ Hid (Mt.Past R 0 s.data.toList t k ∧ Below w.heap.size w wr)) (fun iv _ => s.size + 1 - (intOf iv).toNat)
  case atStart => exact ⟨0, Nat.zero_le _, rfl, Lib.hid ⟨HP0.out, Below.refl _ _⟩⟩
  case round =>
    obtain ⟨k, hk, rfl, HQ⟩ := hrel
    obtain ⟨x0, x1⟩ := HCELL.out wr HQ.out.2
    have HB := Lib.hid HQ.out.2
    have hi0 : (0 : Int) ≤ (k : Int) := by omega
    have hwk : IntKind.i64.wrap ((k : Int) + (T.size : Int)) = (k : Int) + (T.size : Int) := addP_wrap (Nat.le_trans hk (Nat.succ_le_succ hs)) hts
    have HX : Hid ((s.extract k (k + T.size)).toList = T.toList ↔ Mt.Stands s.data.toList t k) := Lib.hid (by
      rw [ByteArray.toList_eq, ByteArray.toList_eq, extP_data, HTD.out, HTS.out, Nat.add_sub_cancel_left]; rfl)
    have HIK := Lib.hid (fun u hu => HIH.out u hu (k + T.size))
    obtain ⟨z, hz⟩ : ∃ z, Mt.hasPs id (s.extract (k + T.size) s.size).data.toList r = z := ⟨_, rfl⟩
    rw [hz] at HIK
    by_cases hle : k + T.size ≤ s.size
    · have d1 : decide ((k : Int) + (T.size : Int) ≤ (s.size : Int)) = true := addP_yes hle
      have hkm : (k : Int) ≤ (k : Int) + (T.size : Int) := addP_le _ _
      have hks : (k : Int) + (T.size : Int) ≤ (s.size : Int) := addP_le2 hle
      have hkz : (0 : Int) ≤ (k : Int) + (T.size : Int) := Int.le_trans hi0 hkm
      have HZ : Hid (Mt.Stands s.data.toList t k → ((0 : Int) = 0 → k = 0) → ((0 : Int) = 2 → k + t.length = s.data.toList.length) → z = R) := Lib.hid (fun a1 a2 a3 => by
        rw [← hz, extP_data, List.take_of_length_le (by rw [List.length_drop]; exact Nat.le_refl _), HTS.out]
        exact Mt.past_yes HR.out HQ.out.1 (by rw [hsl, ← HTS.out]; exact hle) a1 (.inl rfl) a2 a3)
      by_cases hq : (s.extract k (k + T.size)).toList = T.toList
      · have HZ1 := Lib.hid (HZ.out (HX.out.1 hq))
        clear hz
        by_cases hk0 : k = 0
        · subst hk0
          have HK : Hid ((0 : Nat) = 0) := Lib.hid rfl
          rw [Nat.zero_add] at HIK hq
          have hwk0 : IntKind.i64.wrap (T.size : Int) = (T.size : Int) := by have := addP_wrap (k := 0) (by omega) hts; simpa using this
          have hkm0 : (0 : Int) ≤ (T.size : Int) := by omega
          have hks0 : (T.size : Int) ≤ (s.size : Int) := by omega
          have d10 : decide ((T.size : Int) ≤ (s.size : Int)) = true := decide_eq_true hks0
          clear hwk hkm hks hkz d1 hi0
          go_upto_region 8 with fail
          have HBd := Lib.hid (HB.out.drew)
          have hc1 : (1 : Int) ≤ (r.length : Int) + 1 := by omega
          have hc2 : (r.length : Int) + 1 ≤ (cap : Int) := by omega
          have hc3 : r.length + 1 ≤ cap := by omega
          cases z with
          | false =>
            have HPN := Lib.hid (Mt.past_false (k := 0) (c := 0) (t := t) (s := s.data.toList) (HZ1.out (fun _ => HK.out) (fun h => absurd h (by decide))).symm (by decide))
            go_region_law (first | (go_simp; go_at_call 35; refine (HIK.out _ HBd.out).mono ?_; rintro e wx ⟨rfl, hb⟩; have HB2 := Lib.hid (HBd.out.trans (hb.mono HBd.out.size)); clear hb))
            all_goals
              obtain ⟨y0, y1⟩ := HCELL.out _ HB2.out
              go_wp2_with fail
              go_roundw
              case rel => exact ⟨_, by have := hle; have := hk; omega, by go_num, Lib.hid ⟨HPN.out, HB2.out⟩⟩
              case measure => simp [intOf]
          | true =>
            have HRt : Hid (true = R) := Lib.hid (HZ1.out (fun _ => HK.out) (fun h => absurd h (by decide)))
            go_region_law (first | (go_simp; go_at_call 35; refine (HIK.out _ HBd.out).mono ?_; rintro e wx ⟨rfl, hb⟩; have HB2 := Lib.hid (HBd.out.trans (hb.mono HBd.out.size)); clear hb))
            all_goals
              go_wp2_with fail
              all_goals (go_ret; exact ⟨Mt.ret_bool HRt.out, HB2.out⟩)
        · have g0 : (0 : Int) < (k : Int) := by omega
          have g1 : decide ((0 : Int) < (k : Int)) = true := decide_eq_true g0
          have g2 : 0 < k := by omega
          have g3 : decide (0 < k) = true := decide_eq_true g2
          have HPN := Lib.hid (Mt.past_zero_on HQ.out.1 (by omega))
          clear hk0
          go_wp2_with fail
          go_roundw
          case rel => exact ⟨_, by have := hle; have := hk; omega, by go_num, Lib.hid ⟨HPN.out, HB.out⟩⟩
          case measure => simp [intOf]; omega
      · have HPN := Lib.hid (Mt.past_no HR.out HQ.out.1 (show k + t.length ≤ s.data.toList.length by rw [← HTS.out]; exact hle) (fun h => hq (HX.out.2 h)))
        have hq2 : ((s.extract k (k + T.size)).toList == T.toList) = false := by simpa using hq
        clear hz
        go_wp2_with fail
        go_roundw
        case rel => exact ⟨_, by have := hle; have := hk; omega, by go_num, Lib.hid ⟨HPN.out, HB.out⟩⟩
        case measure => simp [intOf]; omega
    · have d1 : decide ((k : Int) + (T.size : Int) ≤ (s.size : Int)) = false := addP_no hle
      have HRf := Lib.hid (Mt.past_end HR.out HQ.out.1 (show s.data.toList.length < k + t.length by rw [← HTS.out]; show s.size < k + T.size; omega) (.inl rfl)).symm
      clear hz
      go_wp2_with fail
      go_ret
      exact ⟨Mt.ret_bool HRf.out, HB.out⟩
end Go.Proofs.YtdfpnhdamkogcaaGreatDoor

/-
  Whether pieces stand in a text, as the document has it: where the first one's kind is 1.
-/
namespace Go.Proofs.YtdfpnhdamkogcaaGreatDoor
open Go.RowKit Go.Lib

set_option maxRecDepth 100000 in
set_option maxHeartbeats 1000000 in
theorem rfits_c1 (t : List UInt8) (r : List Mt.Pc) (s : ByteArray) {w : World} {v : Value} (h : IsPcy w v ((1, t) :: r)) (htl : t.length ≤ 140737488351232) (hs : s.size ≤ 4096)
    (IH : ∀ (s2 : ByteArray) {u : World} {v2 : Value}, IsPcy u v2 r → s2.size ≤ 4096 → Calls Tryz.prog 35 #[.string s2, v2] u fun e w' => e = .returned (.bool (Mt.hasPs id s2.data.toList r)) ∧ Below u.heap.size u w') :
    Calls Tryz.prog 35 #[.string s, v] w fun e w' => e = .returned (.bool (Mt.hasPs id s.data.toList ((1, t) :: r))) ∧ Below w.heap.size w w' := by
  obtain ⟨a, cap, rfl, hcap, HP⟩ := id h
  have HH := Lib.hid h
  have HIH := Lib.hid (fun (u : World) (hu : Below w.heap.size w u) (n : Nat) => IH (s.extract n s.size) (h.tail.below hu) (by rw [extP_size s n s.size (Nat.le_refl _)]; omega))
  obtain ⟨b, off, rfl, hbl, c0, c1⟩ := HP.out 0 (by simp)
  simp only [Nat.zero_mul, Nat.add_zero, List.getElem_cons_zero] at c0 c1
  have HCELL := Lib.hid (fun (u : World) (hu : Below w.heap.size w u) => (show u.cell? ⟨b, off, none⟩ = some (.int .i64 1) ∧ u.cell? ⟨b, off + 1, none⟩ = some (.string (Mt.str t)) from ⟨(hu.cell (p := ⟨b, off, none⟩) hbl).trans c0, (hu.cell (p := ⟨b, off + 1, none⟩) hbl).trans c1⟩))
  have HTL := Lib.hid (show (Mt.str t).size = t.length from Mt.str_size t)
  have hsl : s.data.toList.length = s.size := rfl
  obtain ⟨R, hR⟩ : ∃ R, Mt.hasPs id s.data.toList ((1, t) :: r) = R := ⟨_, rfl⟩
  have HR := Lib.hid hR
  have HP0 := Lib.hid (Mt.past_zero hR)
  rw [hR]
  obtain ⟨x0, x1⟩ := HCELL.out w (Below.refl _ _)
  have hl1 : (List.length ((1, t) :: r) : Int) = (r.length : Int) + 1 := by simp
  obtain ⟨n, hn⟩ : ∃ n, List.length ((1, t) :: r) = n := ⟨_, rfl⟩
  have hn1 : n = r.length + 1 := by rw [← hn]; simp
  rw [hn] at hl1 hcap ⊢
  have hn0 : ((n : Int) == 0) = false := beq_eq_false_iff_ne.2 (by omega)
  have hn0' : (n == 0) = false := beq_eq_false_iff_ne.2 (by omega)
  have hnp : (0 : Int) < (n : Int) := by omega
  have hnp' : 0 < n := by omega
  have HTS := Lib.hid (Mt.str_size t)
  obtain ⟨T, hT⟩ : ∃ T, Mt.str t = T := ⟨_, rfl⟩
  have HTD := Lib.hid (show T.data.toList = t by rw [← hT]; exact Mt.str_data t)
  have hts : T.size ≤ 140737488351232 := by rw [← hT, Mt.str_size]; exact htl
  rw [hT] at x1 HCELL HTL HTS
  clear h HP hR hn hT htl c0 c1 IH
  go_enter Tryz.func35, Tryz.ntmps35
  go_wp2_with fail
  go_loopw [6] (fun iv wr => ∃ k : Nat, k ≤ s.size + 1 ∧ iv = .int .i64 (k : Int) ∧ Hid (Mt.Past R 1 s.data.toList t k ∧ Below w.heap.size w wr)) (fun iv _ => s.size + 1 - (intOf iv).toNat)
  case atStart => exact ⟨0, Nat.zero_le _, rfl, Lib.hid ⟨HP0.out, Below.refl _ _⟩⟩
  case round =>
    obtain ⟨k, hk, rfl, HQ⟩ := hrel
    obtain ⟨x0, x1⟩ := HCELL.out wr HQ.out.2
    have HB := Lib.hid HQ.out.2
    have hi0 : (0 : Int) ≤ (k : Int) := by omega
    have hwk : IntKind.i64.wrap ((k : Int) + (T.size : Int)) = (k : Int) + (T.size : Int) := addP_wrap (Nat.le_trans hk (Nat.succ_le_succ hs)) hts
    have HX : Hid ((s.extract k (k + T.size)).toList = T.toList ↔ Mt.Stands s.data.toList t k) := Lib.hid (by
      rw [ByteArray.toList_eq, ByteArray.toList_eq, extP_data, HTD.out, HTS.out, Nat.add_sub_cancel_left]; rfl)
    have HIK := Lib.hid (fun u hu => HIH.out u hu (k + T.size))
    obtain ⟨z, hz⟩ : ∃ z, Mt.hasPs id (s.extract (k + T.size) s.size).data.toList r = z := ⟨_, rfl⟩
    rw [hz] at HIK
    by_cases hle : k + T.size ≤ s.size
    · have d1 : decide ((k : Int) + (T.size : Int) ≤ (s.size : Int)) = true := addP_yes hle
      have hkm : (k : Int) ≤ (k : Int) + (T.size : Int) := addP_le _ _
      have hks : (k : Int) + (T.size : Int) ≤ (s.size : Int) := addP_le2 hle
      have hkz : (0 : Int) ≤ (k : Int) + (T.size : Int) := Int.le_trans hi0 hkm
      have HZ : Hid (Mt.Stands s.data.toList t k → ((1 : Int) = 0 → k = 0) → ((1 : Int) = 2 → k + t.length = s.data.toList.length) → z = R) := Lib.hid (fun a1 a2 a3 => by
        rw [← hz, extP_data, List.take_of_length_le (by rw [List.length_drop]; exact Nat.le_refl _), HTS.out]
        exact Mt.past_yes HR.out HQ.out.1 (by rw [hsl, ← HTS.out]; exact hle) a1 (.inr (.inl rfl)) a2 a3)
      by_cases hq : (s.extract k (k + T.size)).toList = T.toList
      · have HZ1 := Lib.hid (HZ.out (HX.out.1 hq))
        clear hz
        go_upto_region 8 with fail
        have HBd := Lib.hid (HB.out.drew)
        have hc1 : (1 : Int) ≤ (r.length : Int) + 1 := by omega
        have hc2 : (r.length : Int) + 1 ≤ (cap : Int) := by omega
        have hc3 : r.length + 1 ≤ cap := by omega
        cases z with
        | false =>
          have HRf : Hid (false = R) := Lib.hid (HZ1.out (fun h => absurd h (by decide)) (fun h => absurd h (by decide)))
          go_region_law (first | (go_simp; go_at_call 35; refine (HIK.out _ HBd.out).mono ?_; rintro e wx ⟨rfl, hb⟩; have HB2 := Lib.hid (HBd.out.trans (hb.mono HBd.out.size)); clear hb))
          all_goals
            obtain ⟨y0, y1⟩ := HCELL.out _ HB2.out
            go_wp2_with fail
            all_goals (go_ret; exact ⟨Mt.ret_bool HRf.out, HB2.out⟩)
        | true =>
          have HRt : Hid (true = R) := Lib.hid (HZ1.out (fun h => absurd h (by decide)) (fun h => absurd h (by decide)))
          go_region_law (first | (go_simp; go_at_call 35; refine (HIK.out _ HBd.out).mono ?_; rintro e wx ⟨rfl, hb⟩; have HB2 := Lib.hid (HBd.out.trans (hb.mono HBd.out.size)); clear hb))
          all_goals
            go_wp2_with fail
            all_goals (go_ret; exact ⟨Mt.ret_bool HRt.out, HB2.out⟩)
      · have HPN := Lib.hid (Mt.past_no HR.out HQ.out.1 (show k + t.length ≤ s.data.toList.length by rw [← HTS.out]; exact hle) (fun h => hq (HX.out.2 h)))
        have hq2 : ((s.extract k (k + T.size)).toList == T.toList) = false := by simpa using hq
        clear hz
        go_wp2_with fail
        go_roundw
        case rel => exact ⟨_, by have := hle; have := hk; omega, by go_num, Lib.hid ⟨HPN.out, HB.out⟩⟩
        case measure => simp [intOf]; omega
    · have d1 : decide ((k : Int) + (T.size : Int) ≤ (s.size : Int)) = false := addP_no hle
      have HRf := Lib.hid (Mt.past_end HR.out HQ.out.1 (show s.data.toList.length < k + t.length by rw [← HTS.out]; show s.size < k + T.size; omega) (.inr (.inl rfl))).symm
      clear hz
      go_wp2_with fail
      go_ret
      exact ⟨Mt.ret_bool HRf.out, HB.out⟩
end Go.Proofs.YtdfpnhdamkogcaaGreatDoor

/-
  Whether pieces stand in a text, as the document has it: where the first one's kind is 2.
-/
namespace Go.Proofs.YtdfpnhdamkogcaaGreatDoor
open Go.RowKit Go.Lib

set_option maxRecDepth 100000 in
set_option maxHeartbeats 1000000 in
theorem rfits_c2 (t : List UInt8) (r : List Mt.Pc) (s : ByteArray) {w : World} {v : Value} (h : IsPcy w v ((2, t) :: r)) (htl : t.length ≤ 140737488351232) (hs : s.size ≤ 4096)
    (IH : ∀ (s2 : ByteArray) {u : World} {v2 : Value}, IsPcy u v2 r → s2.size ≤ 4096 → Calls Tryz.prog 35 #[.string s2, v2] u fun e w' => e = .returned (.bool (Mt.hasPs id s2.data.toList r)) ∧ Below u.heap.size u w') :
    Calls Tryz.prog 35 #[.string s, v] w fun e w' => e = .returned (.bool (Mt.hasPs id s.data.toList ((2, t) :: r))) ∧ Below w.heap.size w w' := by
  obtain ⟨a, cap, rfl, hcap, HP⟩ := id h
  have HH := Lib.hid h
  have HIH := Lib.hid (fun (u : World) (hu : Below w.heap.size w u) (n : Nat) => IH (s.extract n s.size) (h.tail.below hu) (by rw [extP_size s n s.size (Nat.le_refl _)]; omega))
  obtain ⟨b, off, rfl, hbl, c0, c1⟩ := HP.out 0 (by simp)
  simp only [Nat.zero_mul, Nat.add_zero, List.getElem_cons_zero] at c0 c1
  have HCELL := Lib.hid (fun (u : World) (hu : Below w.heap.size w u) => (show u.cell? ⟨b, off, none⟩ = some (.int .i64 2) ∧ u.cell? ⟨b, off + 1, none⟩ = some (.string (Mt.str t)) from ⟨(hu.cell (p := ⟨b, off, none⟩) hbl).trans c0, (hu.cell (p := ⟨b, off + 1, none⟩) hbl).trans c1⟩))
  have HTL := Lib.hid (show (Mt.str t).size = t.length from Mt.str_size t)
  have hsl : s.data.toList.length = s.size := rfl
  obtain ⟨R, hR⟩ : ∃ R, Mt.hasPs id s.data.toList ((2, t) :: r) = R := ⟨_, rfl⟩
  have HR := Lib.hid hR
  have HP0 := Lib.hid (Mt.past_zero hR)
  rw [hR]
  obtain ⟨x0, x1⟩ := HCELL.out w (Below.refl _ _)
  have hl1 : (List.length ((2, t) :: r) : Int) = (r.length : Int) + 1 := by simp
  obtain ⟨n, hn⟩ : ∃ n, List.length ((2, t) :: r) = n := ⟨_, rfl⟩
  have hn1 : n = r.length + 1 := by rw [← hn]; simp
  rw [hn] at hl1 hcap ⊢
  have hn0 : ((n : Int) == 0) = false := beq_eq_false_iff_ne.2 (by omega)
  have hn0' : (n == 0) = false := beq_eq_false_iff_ne.2 (by omega)
  have hnp : (0 : Int) < (n : Int) := by omega
  have hnp' : 0 < n := by omega
  have HTS := Lib.hid (Mt.str_size t)
  obtain ⟨T, hT⟩ : ∃ T, Mt.str t = T := ⟨_, rfl⟩
  have HTD := Lib.hid (show T.data.toList = t by rw [← hT]; exact Mt.str_data t)
  have hts : T.size ≤ 140737488351232 := by rw [← hT, Mt.str_size]; exact htl
  rw [hT] at x1 HCELL HTL HTS
  clear h HP hR hn hT htl c0 c1 IH
  go_enter Tryz.func35, Tryz.ntmps35
  go_wp2_with fail
  go_loopw [6] (fun iv wr => ∃ k : Nat, k ≤ s.size + 1 ∧ iv = .int .i64 (k : Int) ∧ Hid (Mt.Past R 2 s.data.toList t k ∧ Below w.heap.size w wr)) (fun iv _ => s.size + 1 - (intOf iv).toNat)
  case atStart => exact ⟨0, Nat.zero_le _, rfl, Lib.hid ⟨HP0.out, Below.refl _ _⟩⟩
  case round =>
    obtain ⟨k, hk, rfl, HQ⟩ := hrel
    obtain ⟨x0, x1⟩ := HCELL.out wr HQ.out.2
    have HB := Lib.hid HQ.out.2
    have hi0 : (0 : Int) ≤ (k : Int) := by omega
    have hwk : IntKind.i64.wrap ((k : Int) + (T.size : Int)) = (k : Int) + (T.size : Int) := addP_wrap (Nat.le_trans hk (Nat.succ_le_succ hs)) hts
    have HX : Hid ((s.extract k (k + T.size)).toList = T.toList ↔ Mt.Stands s.data.toList t k) := Lib.hid (by
      rw [ByteArray.toList_eq, ByteArray.toList_eq, extP_data, HTD.out, HTS.out, Nat.add_sub_cancel_left]; rfl)
    have HIK := Lib.hid (fun u hu => HIH.out u hu (k + T.size))
    obtain ⟨z, hz⟩ : ∃ z, Mt.hasPs id (s.extract (k + T.size) s.size).data.toList r = z := ⟨_, rfl⟩
    rw [hz] at HIK
    by_cases hle : k + T.size ≤ s.size
    · have d1 : decide ((k : Int) + (T.size : Int) ≤ (s.size : Int)) = true := addP_yes hle
      have hkm : (k : Int) ≤ (k : Int) + (T.size : Int) := addP_le _ _
      have hks : (k : Int) + (T.size : Int) ≤ (s.size : Int) := addP_le2 hle
      have hkz : (0 : Int) ≤ (k : Int) + (T.size : Int) := Int.le_trans hi0 hkm
      have HZ : Hid (Mt.Stands s.data.toList t k → ((2 : Int) = 0 → k = 0) → ((2 : Int) = 2 → k + t.length = s.data.toList.length) → z = R) := Lib.hid (fun a1 a2 a3 => by
        rw [← hz, extP_data, List.take_of_length_le (by rw [List.length_drop]; exact Nat.le_refl _), HTS.out]
        exact Mt.past_yes HR.out HQ.out.1 (by rw [hsl, ← HTS.out]; exact hle) a1 (.inr (.inr rfl)) a2 a3)
      by_cases hq : (s.extract k (k + T.size)).toList = T.toList
      · have HZ1 := Lib.hid (HZ.out (HX.out.1 hq))
        clear hz
        by_cases hkl : k + T.size = s.size
        · have g0 : decide ((k : Int) + (T.size : Int) < (s.size : Int)) = false := decide_eq_false (by omega)
          have HK := Lib.hid (show k + t.length = s.data.toList.length by rw [← HTS.out]; exact hkl)
          clear hkl
          go_upto_region 8 with fail
          have HBd := Lib.hid (HB.out.drew)
          have hc1 : (1 : Int) ≤ (r.length : Int) + 1 := by omega
          have hc2 : (r.length : Int) + 1 ≤ (cap : Int) := by omega
          have hc3 : r.length + 1 ≤ cap := by omega
          cases z with
          | false =>
            have HPN := Lib.hid (Mt.past_false (k := k) (c := 2) (t := t) (s := s.data.toList) (HZ1.out (fun h => absurd h (by decide)) (fun _ => HK.out)).symm (by decide))
            go_region_law (first | (go_simp; go_at_call 35; refine (HIK.out _ HBd.out).mono ?_; rintro e wx ⟨rfl, hb⟩; have HB2 := Lib.hid (HBd.out.trans (hb.mono HBd.out.size)); clear hb))
            all_goals
              obtain ⟨y0, y1⟩ := HCELL.out _ HB2.out
              go_wp2_with fail
              go_roundw
              case rel => exact ⟨_, by have := hle; have := hk; omega, by go_num, Lib.hid ⟨HPN.out, HB2.out⟩⟩
              case measure => simp [intOf]; omega
          | true =>
            have HRt : Hid (true = R) := Lib.hid (HZ1.out (fun h => absurd h (by decide)) (fun _ => HK.out))
            go_region_law (first | (go_simp; go_at_call 35; refine (HIK.out _ HBd.out).mono ?_; rintro e wx ⟨rfl, hb⟩; have HB2 := Lib.hid (HBd.out.trans (hb.mono HBd.out.size)); clear hb))
            all_goals
              go_wp2_with fail
              all_goals (go_ret; exact ⟨Mt.ret_bool HRt.out, HB2.out⟩)
        · have g0 : (k : Int) + (T.size : Int) < (s.size : Int) := by omega
          have g1 : decide ((k : Int) + (T.size : Int) < (s.size : Int)) = true := decide_eq_true g0
          have g2 : k + T.size < s.size := by omega
          have g3 : decide (k + T.size < s.size) = true := decide_eq_true g2
          have HPN := Lib.hid (Mt.past_two_on (R := R) (show k + t.length < s.data.toList.length by rw [← HTS.out]; show k + T.size < s.size; omega))
          clear hkl
          go_wp2_with fail
          go_roundw
          case rel => exact ⟨_, by have := hle; have := hk; omega, by go_num, Lib.hid ⟨HPN.out, HB.out⟩⟩
          case measure => simp [intOf]; omega
      · have HPN := Lib.hid (Mt.past_no HR.out HQ.out.1 (show k + t.length ≤ s.data.toList.length by rw [← HTS.out]; exact hle) (fun h => hq (HX.out.2 h)))
        have hq2 : ((s.extract k (k + T.size)).toList == T.toList) = false := by simpa using hq
        clear hz
        go_wp2_with fail
        go_roundw
        case rel => exact ⟨_, by have := hle; have := hk; omega, by go_num, Lib.hid ⟨HPN.out, HB.out⟩⟩
        case measure => simp [intOf]; omega
    · have d1 : decide ((k : Int) + (T.size : Int) ≤ (s.size : Int)) = false := addP_no hle
      have HRf := Lib.hid (Mt.past_end HR.out HQ.out.1 (show s.data.toList.length < k + t.length by rw [← HTS.out]; show s.size < k + T.size; omega) (.inr (.inr rfl))).symm
      clear hz
      go_wp2_with fail
      go_ret
      exact ⟨Mt.ret_bool HRf.out, HB.out⟩
end Go.Proofs.YtdfpnhdamkogcaaGreatDoor

/-
  Whether pieces stand in a text, as the document has it: every place is tried.
-/
namespace Go.Proofs.YtdfpnhdamkogcaaGreatDoor
open Go.RowKit Go.Lib

theorem rfits_nil (s : ByteArray) {w : World} {v : Value} (h : IsPcy w v []) : Calls Tryz.prog 35 #[.string s, v] w fun e w' => e = .returned (.bool (Mt.hasPs id s.data.toList [])) ∧ Below w.heap.size w w' := by
  obtain ⟨a, cap, rfl, _, _⟩ := h
  go_enter Tryz.func35, Tryz.ntmps35
  go_wp2_with fail
  go_ret
  exact ⟨rfl, Below.refl _ _⟩
theorem rfits_any : ∀ (ps : List Mt.Pc), (∀ p ∈ ps, (p.1 = 0 ∨ p.1 = 1 ∨ p.1 = 2) ∧ p.2.length ≤ 140737488351232) → ∀ (s : ByteArray) {w : World} {v : Value}, IsPcy w v ps → s.size ≤ 4096 → Calls Tryz.prog 35 #[.string s, v] w fun e w' => e = .returned (.bool (Mt.hasPs id s.data.toList ps)) ∧ Below w.heap.size w w'
  | [], _, s, w, v, h, _ => rfits_nil s h
  | (c, t) :: r, hk, s, w, v, h, hs => by
    have IH := rfits_any r (fun p hp => hk p (by simp [hp]))
    have hc := hk (c, t) (by simp)
    dsimp only at hc
    obtain ⟨hc, ht⟩ := hc
    rcases hc with rfl | rfl | rfl
    · exact rfits_c0 t r s h ht hs IH
    · exact rfits_c1 t r s h ht hs IH
    · exact rfits_c2 t r s h ht hs IH
end Go.Proofs.YtdfpnhdamkogcaaGreatDoor

/-
  Pieces that came in, with the sizes of their texts.
-/
namespace Go.Proofs.YtdfpnhdamkogcaaGreatDoor
open Go.RowKit

theorem weightsAll_memP {H : Type} {P : Program} {e : TypeId} : ∀ {l : List (DataW H)} {d : DataW H} {n : Nat}, d ∈ l → n ∈ d.weights P e → n ∈ DataW.weightsAll P e l
  | _ :: l, d, n, h, hn => by
    simp only [DataW.weightsAll, List.mem_append]
    rcases List.mem_cons.1 h with rfl | h
    · exact .inl hn
    · exact .inr (weightsAll_memP h hn)
theorem cellsPiece : Tryz.prog.cellsOf 38 = 2 := by kernel_rfl
theorem cellsStrP : Tryz.prog.cellsOf 9 = 1 := by kernel_rfl
theorem cellsIntP : Tryz.prog.cellsOf 3 = 1 := by kernel_rfl
theorem addrP_none {w : World} {x : Addr} {v : Value} (h : w.cell? x = some v) : ∃ b off, x = ⟨b, off, none⟩ := by
  obtain ⟨b, off, spot⟩ := x
  have hs : spot = none := by simpa using World.cell?_spot h
  exact ⟨b, off, by rw [hs]⟩
theorem addP_zero (x : Addr) : x.add 0 = x := by obtain ⟨b, off, sp⟩ := x; unfold Addr.add; split <;> simp_all

set_option maxRecDepth 100000 in
theorem open_pcsW {H : Type} {enc : TypeId × Value → H} {W : World} {a : Option Addr} {n c : Nat} {d : DataW H} {p : List MemPlace} {ts : List TypeId} {ds : List (DataW H)} {j : Nat}
    (h : DataW.Trod enc Tryz.prog W 0 (fun _ => true) true 29 (.slice a n c) d p) (ht : ts[j]? = some 29) (hd : ds[j]? = some d) (hsz : (DataW.weightsEach Tryz.prog ts ds).all (· ≤ reachBytes) = true) :
    ∃ D, IsPcs W (.slice a n c) D ∧ D.length = n ∧ n ≤ 9223372036854775807 ∧ ∀ q ∈ D, q.2.length ≤ 140737488351232 := by
  have hwt : ∀ k ∈ d.weights Tryz.prog 29, k ≤ reachBytes := fun k hk => by
    have := List.all_eq_true.1 hsz _ (DataW.weights_mem_each ht hd k hk)
    simpa using this
  obtain ⟨fuel, hf⟩ := h
  rcases DataW.trod_slice Tryz.underlying29 hf with ⟨hcs, _⟩ | ⟨y, l, cp, elems, rest, n2, hmn, hcs, hy2, _, hl, hm, hlen, hel, _, _⟩
  · simp [Value.cells] at hcs
    obtain ⟨rfl, rfl, rfl⟩ := hcs
    exact ⟨[], ⟨none, 0, rfl, Lib.hid fun j hj => absurd hj (by simp)⟩, rfl, by simp, by simp⟩
  · simp [Value.cells] at hcs
    obtain ⟨rfl, rfl, rfl⟩ := hcs
    have hy3 := congrArg Prod.fst hy2
    simp only at hy3
    rw [cellsPiece] at hel
    have hex : ∀ i : Nat, ∃ q : Mt.Pc, i < n → (W.cell? (y.add (i * 2)) = some (.int .i64 q.1) ∧ W.cell? ((y.add (i * 2)).add 1) = some (.string (Mt.str q.2))) ∧ q.2.length ≤ 140737488351232 := by
      intro i
      by_cases hin : i < n
      · have h := hel i hin
        rw [List.getElem?_eq_getElem (by omega)] at h
        obtain ⟨cs', hc, ht2⟩ := Option.bind_eq_some_iff.1 h
        obtain ⟨_, hcl, hat⟩ := World.cells?_some hc
        have hmem : elems[i].1 ∈ elems.map (·.1) := List.mem_map.2 ⟨elems[i], List.getElem_mem _, rfl⟩
        have hwe : ∀ k ∈ elems[i].1.weights Tryz.prog 38, k ≤ reachBytes := fun k hk => hwt k (by
          rw [hy3]; simp only [DataW.weights, Tryz.underlying29, List.mem_cons, List.mem_append]
          exact .inr (.inl (weightsAll_memP hmem hk)))
        obtain ⟨xs, m2, _, hxx, _, hxl, hg⟩ := DataW.trod_struct Tryz.underlying38 ht2
        obtain ⟨c0, c1, rfl⟩ : ∃ c0 c1, cs' = [c0, c1] := by
          match cs', hcl with
          | [c0, c1], _ => exact ⟨c0, c1, rfl⟩
        obtain ⟨y0, y1, rfl⟩ : ∃ y0 y1, xs = [y0, y1] := by
          match xs, hxl with
          | [y0, y1], _ => exact ⟨y0, y1, rfl⟩
        · skip
          obtain ⟨S, e0, hy0, _⟩ := DataW.trod_int Tryz.underlying3 (x := y0) (by simpa [cellsIntP, Value.cells] using hg 0 _ rfl)
          obtain ⟨T, e1, hy1, _⟩ := DataW.trod_string Tryz.underlying9 (x := y1) (by simpa [cellsIntP, cellsStrP, Value.cells] using hg 1 _ rfl)
          simp only [List.cons.injEq, and_true] at e0 e1
          subst e0 e1
          have hx1 : elems[i].1 = .agg [y0.1, y1.1] := by rw [hxx]; rfl
          have hs1 : T.data.toList.length ≤ reachBytes := hwe _ (by
            rw [hx1]; simp only [DataW.weights, Tryz.underlying38, List.map_cons, List.map_nil, DataW.weightsEach, List.mem_append]
            exact .inr (.inl (by rw [hy1]; simp [DataW.weights])))
          refine ⟨(S, T.data.toList), fun _ => ⟨⟨?_, ?_⟩, hs1⟩⟩
          · have := hat 0 (by decide); rw [addP_zero] at this; exact this
          · exact hat 1 (by decide)
      · exact ⟨(0, []), fun h => absurd h hin⟩
    obtain ⟨f, hfm⟩ := Classical.axiomOfChoice hex
    have hm2 : n ≤ 9223372036854775807 := by unfold maxLen at hm; omega
    have hlD : ((List.range n).map f).length = n := by simp
    refine ⟨(List.range n).map f, ⟨some y, c, by rw [hlD], Lib.hid fun j hj => ?_⟩, hlD, hm2, fun a ha => ?_⟩
    · have hin : j < n := by rw [hlD] at hj; exact hj
      have hv := (hfm 0 (by omega)).1.1
      rw [addP_zero] at hv
      obtain ⟨b, off, rfl⟩ := addrP_none hv
      have h2 := (hfm j hin).1
      rw [add_off, add_off] at h2
      exact ⟨b, off, rfl, World.block_lt_of_cell? W _ hv, by simpa using h2.1, by simpa using h2.2⟩
    · obtain ⟨i, hi, rfl⟩ := List.mem_map.1 ha
      exact (hfm i (List.mem_range.1 hi)).2
end Go.Proofs.YtdfpnhdamkogcaaGreatDoor
