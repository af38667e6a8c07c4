/-
  Some texts of one proof, one behind the other.
-/
import Derived.Test.YtdfpnhdamkogcaaGreatDoorPk4
import Derived.Test.YtdfpnhdamkogcaaGreatDoorPk27
import Derived.Test.YtdfpnhdamkogcaaGreatDoorPk31
set_option linter.unusedVariables false
set_option linter.unusedSimpArgs false

/-
  Whether a filter of pieces may be, as the document has it.
-/
namespace Go.Proofs.YtdfpnhdamkogcaaGreatDoor
open Go.RowKit Go.Lib

theorem Mt.piece_nil (k : Int) (a b : Bool) : Mt.pieceB (k, []) a b = false := rfl
theorem Mt.piece_cons (k : Int) (c : UInt8) (t : List UInt8) (a b : Bool) : Mt.pieceB (k, c :: t) a b = if k = 0 then a else if k = 1 then true else if k = 2 then b else false := by
  unfold Mt.pieceB
  rw [decide_eq_true (show ((k, c :: t) : Mt.Pc).2 ≠ [] by simp), Bool.true_and]
set_option maxRecDepth 100000 in
set_option maxHeartbeats 1000000 in
theorem rcheck4_any {w : World} {v : Value} {ps : List Mt.Pc} (h : IsPcs w v ps) (hn : ps.length ≤ 9223372036854775806) : Calls Tryz.prog 54 #[.agg #[.int .i64 4, .string ⟨#[97]⟩, .string ⟨#[]⟩, v, .slice none 0 0], .int .i64 1, .int .i64 0] w fun e w' => e = .returned (.tuple #[.int .i64 (if Mt.soundB ps then 0 else 4), .int .i64 1]) ∧ Below w.heap.size w w' := by
  have HT := Lib.hid (fun u => rtype_any ⟨#[97]⟩ u (by decide))
  have ht : Mt.typL (⟨#[97]⟩ : ByteArray).data.toList = true := by decide
  rw [ht] at HT
  obtain ⟨a, cap, rfl, HP⟩ := id h
  have HST := Lib.hid (fun i (hi : i < ps.length) => Mt.piecesF_step ps ps.length i hi)
  have HEND : Hid (Mt.piecesF ps.length ps.length (ps.drop ps.length) = true) := Lib.hid (by rw [List.drop_length]; rfl)
  obtain ⟨R, hR⟩ : ∃ R, Mt.soundB ps = R := ⟨_, rfl⟩
  have HF0 : Hid ((decide (0 < ps.length) && Mt.piecesF ps.length 0 (ps.drop 0)) = R) := Lib.hid hR
  rw [hR]
  obtain ⟨n, hnn⟩ : ∃ n, ps.length = n := ⟨_, rfl⟩
  have HLN := Lib.hid hnn
  rw [hnn] at HF0 HEND ⊢
  have hn0 : n ≤ 9223372036854775806 := by omega
  have HB1 := Lib.hid ((Below.refl w.heap.size w).alloc (Nat.le_refl _) (.cells #[.int .i64 4, .string ⟨#[97]⟩, .string ⟨#[]⟩, .slice a n cap, .slice none 0 0] 56))
  have HX1 := Lib.hid (heap_alloc_new w (.cells #[.int .i64 4, .string ⟨#[97]⟩, .string ⟨#[]⟩, .slice a n cap, .slice none 0 0] 56))
  have HLT : Hid (w.heap.size < (w.alloc (.cells #[.int .i64 4, .string ⟨#[97]⟩, .string ⟨#[]⟩, .slice a n cap, .slice none 0 0] 56)).heap.size) := Lib.hid (by simp)
  obtain ⟨z0, hz0⟩ : ∃ z, decide (0 < n) = z := ⟨_, rfl⟩
  have hz0i : decide ((0 : Int) < (n : Int)) = z0 := by rw [← hz0, decide_eq_decide]; omega
  rw [hz0] at HF0
  clear h hR hnn hn ht
  go_enter Tryz.func54, Tryz.ntmps54
  go_upto_region 20 with fail
  generalize (w.alloc (.cells #[.int .i64 4, .string ⟨#[97]⟩, .string ⟨#[]⟩, .slice a n cap, .slice none 0 0] 56)) = w1 at *
  have HXK : Hid (∀ u, Below w1.heap.size w1 u → u.cell? ⟨w.heap.size, 0, none⟩ = some (.int .i64 4) ∧ u.cell? ⟨w.heap.size, 1, none⟩ = some (.string ⟨#[97]⟩) ∧ u.cell? ⟨w.heap.size, 3, none⟩ = some (.slice a n cap)) := Lib.hid (fun u hu => by
    have hrow := (hu.block w.heap.size HLT.out).trans HX1.out
    exact ⟨by rw [cell_of_row _ _ _ _ _ _ hrow]; rfl, by rw [cell_of_row _ _ _ _ _ _ hrow]; rfl, by rw [cell_of_row _ _ _ _ _ _ hrow]; rfl⟩)
  obtain ⟨x0, x1, x3⟩ := HXK.out w1 (Below.refl _ _)
  go_wp2_with fail
  refine (HT.out _).mono ?_
  rintro e w2 ⟨rfl, hb⟩
  have HBW := Lib.hid hb
  clear x0 x1 x3
  obtain ⟨x0, x1, x3⟩ := HXK.out w2 hb
  clear hb HT
  go_wp2_with fail
  have HF1 := Lib.hid HF0.out
  have HB2 := Lib.hid (HB1.out.trans (HBW.out.mono HB1.out.size))
  go_loopw [86, 11] (fun iv ov wr => ∃ (i : Nat) (o : Bool), i ≤ n ∧ iv = .int .i64 (i : Int) ∧ ov = .bool o ∧ Hid ((o && Mt.piecesF n i (ps.drop i)) = R ∧ Below w1.heap.size w1 wr)) (fun iv _ _ => n - (intOf iv).toNat)
  case atStart => exact ⟨0, z0, Nat.zero_le _, rfl, rfl, Lib.hid ⟨HF1.out, HBW.out⟩⟩
  case round =>
    obtain ⟨i, o, hi, rfl, rfl, HR⟩ := hrel
    clear x0 x1 x3
    obtain ⟨x0, x1, x3⟩ := HXK.out wr HR.out.2
    by_cases hlt : i < n
    · have hip : i < ps.length := by rw [HLN.out]; exact hlt
      obtain ⟨b, off, e0, hbl, c0, c1⟩ := HP.out i hip
      obtain ⟨k, t, hkt⟩ : ∃ k t, ps[i] = (k, t) := ⟨_, _, rfl⟩
      have hst := HST.out i hip
      rw [hkt] at c0 c1 hst
      rw [HLN.out] at hst
      have HBW2 := Lib.hid (HB1.out.trans (HR.out.2.mono HB1.out.size))
      have x4 := (HBW2.out.cell (p := ⟨b, off + i * 2, none⟩) hbl).trans c0
      have x5 := (HBW2.out.cell (p := ⟨b, off + i * 2 + 1, none⟩) hbl).trans c1
      dsimp only at x4 x5
      have HBR := Lib.hid HR.out.2
      have hre := HR.out.1
      rw [hst] at hre
      have HA := Lib.hid (HBR.out.trans (((Below.refl _ wr).alloc (Nat.le_refl _) (.cells #[.int .i64 k, .string (Mt.str t)] 38)).mono HBR.out.size))
      obtain ⟨y0, y1, y3⟩ := HXK.out _ HA.out
      subst e0
      have d1 : decide ((i : Int) < (n : Int)) = true := decide_eq_true (by omega)
      have d2 : decide (i < n) = true := decide_eq_true hlt
      have f1 : ((i : Int) == 0) = decide (i = 0) := by rw [Bool.eq_iff_iff]; simp
      have f2 : ((i : Int) + 1 == (n : Int)) = decide (i + 1 = n) := by rw [Bool.eq_iff_iff]; simp; omega
      obtain ⟨z1, hz1⟩ : ∃ z, decide (i = 0) = z := ⟨_, rfl⟩
      obtain ⟨z2, hz2⟩ : ∃ z, decide (i + 1 = n) = z := ⟨_, rfl⟩
      rw [hz1] at f1 hre
      rw [hz2] at f2 hre
      obtain ⟨Z, hZ⟩ : ∃ Z, Mt.piecesF n (i + 1) (ps.drop (i + 1)) = Z := ⟨_, rfl⟩
      have HZ := Lib.hid hZ
      rw [hZ] at hre
      have hw1 : IntKind.i64.wrap ((i : Int) + 1) = (i : Int) + 1 := by rw [IntKind.wrap_i64]; omega
      have i0 : (0 : Int) ≤ (i : Int) := by omega
      have HE := Lib.hid hre
      clear hbl c0 c1 hkt hst HR hz1 hz2 hip hZ hre
      cases o with
      | false =>
        have HRf : Hid ((false && Z) = R) := Lib.hid (by have := HE.out; simpa using this)
        clear HE
        go_wp2_with fail
        go_roundw
        case rel => exact ⟨i + 1, false, by omega, by go_num, rfl, Lib.hid ⟨by rw [HZ.out]; exact HRf.out, HA.out⟩⟩
        case measure => simp [intOf]; omega
      | true =>
        cases t with
        | nil =>
          have HRf : Hid ((false && Z) = R) := Lib.hid (by have := HE.out; simpa [Mt.piece_nil] using this)
          have hem : (Mt.str []).toList.isEmpty = true := by rw [ByteArray.toList_eq, Mt.str_data]; rfl
          generalize Mt.str [] = TT at *
          clear HE
          go_wp2_with fail
          go_roundw
          case rel => exact ⟨i + 1, false, by omega, by go_num, rfl, Lib.hid ⟨by rw [HZ.out]; exact HRf.out, HA.out⟩⟩
          case measure => simp [intOf]; omega
        | cons ch r =>
          have hne : (Mt.str (ch :: r)).toList.isEmpty = false := nonempty_str (by rw [Mt.str_size]; simp)
          have HE2 := Lib.hid HE.out
          rw [Mt.piece_cons] at HE2
          generalize Mt.str (ch :: r) = TT at *
          clear HE
          by_cases k1 : k = 1
          · subst k1
            have HRf : Hid ((true && Z) = R) := Lib.hid (by have := HE2.out; simpa using this)
            clear HE2
            go_wp2_with fail
            go_roundw
            case rel => exact ⟨i + 1, true, by omega, by go_num, rfl, Lib.hid ⟨by rw [HZ.out]; exact HRf.out, HA.out⟩⟩
            case measure => simp [intOf]; omega
          have n1 : (k == 1) = false := beq_eq_false_iff_ne.2 k1
          by_cases k0 : k = 0
          · subst k0
            have HRf : Hid ((z1 && Z) = R) := Lib.hid (by have := HE2.out; simpa using this)
            clear HE2 k1
            cases z1
            all_goals
              go_wp2_with fail
              go_roundw
              case rel => exact ⟨i + 1, _, by omega, by go_num, rfl, Lib.hid ⟨by rw [HZ.out]; exact HRf.out, HA.out⟩⟩
              case measure => simp [intOf]; omega
          have n0 : (k == 0) = false := beq_eq_false_iff_ne.2 k0
          by_cases k2 : k = 2
          · subst k2
            have HRf : Hid ((z2 && Z) = R) := Lib.hid (by have := HE2.out; simpa using this)
            clear HE2 k1 k0
            cases z2
            all_goals
              go_wp2_with fail
              go_roundw
              case rel => exact ⟨i + 1, _, by omega, by go_num, rfl, Lib.hid ⟨by rw [HZ.out]; exact HRf.out, HA.out⟩⟩
              case measure => simp [intOf]; omega
          · have n2 : (k == 2) = false := beq_eq_false_iff_ne.2 k2
            have HRf : Hid ((false && Z) = R) := Lib.hid (by have := HE2.out; rw [if_neg k0, if_neg k1, if_neg k2] at this; simpa using this)
            clear HE2 k1 k0 k2
            go_wp2_with fail
            go_roundw
            case rel => exact ⟨i + 1, _, by omega, by go_num, rfl, Lib.hid ⟨by rw [HZ.out]; exact HRf.out, HA.out⟩⟩
            case measure => simp [intOf]; omega
    · obtain rfl : i = n := by omega
      have d1 : decide ((i : Int) < (i : Int)) = false := decide_eq_false (by omega)
      have d2 : decide (i < i) = false := decide_eq_false (by omega)
      have HRT : Hid (o = R) := Lib.hid (by have := HR.out.1; rw [HEND.out, Bool.and_true] at this; exact this)
      have HBE := Lib.hid (HB1.out.trans (HR.out.2.mono HB1.out.size))
      clear HR hlt
      cases o with
      | false =>
        have e : R = false := HRT.out.symm
        rw [e]
        go_wp2_with fail
        all_goals (go_ret2; exact ⟨rfl, HBE.out⟩)
      | true =>
        have e : R = true := HRT.out.symm
        rw [e]
        go_wp2_with fail
        all_goals (go_ret2; exact ⟨rfl, HBE.out⟩)
end Go.Proofs.YtdfpnhdamkogcaaGreatDoor
