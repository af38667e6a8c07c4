/-
  Some texts of one proof, one behind the other.
-/
import Derived.Test.YtdfpnhdamkogcaaGreatDoorPk5
import Derived.Test.YtdfpnhdamkogcaaGreatDoorPk11
import Derived.Test.YtdfpnhdamkogcaaGreatDoorPk26
set_option linter.unusedVariables false
set_option linter.unusedSimpArgs false

/-
  Pieces: whether they are such as filters have.
-/
namespace Go.Proofs.YtdfpnhdamkogcaaGreatDoor
open Go.RowKit Go.Lib

theorem stands_any (k : Int) (f l : Bool) (w : World) : Calls Tryz.prog 155 #[.int .i64 k, .bool f, .bool l] w fun e w' => e = .returned (.bool (if k = 0 then f else if k = 1 then true else if k = 2 then l else false)) ∧ w = w' := by
  by_cases h0 : k = 0
  · subst h0
    rw [if_pos rfl]
    go_enter Tryz.func155, Tryz.ntmps155
    go_wp2; go_ret; exact ⟨rfl, rfl⟩
  by_cases h1 : k = 1
  · subst h1
    rw [if_neg (by decide), if_pos rfl]
    go_enter Tryz.func155, Tryz.ntmps155
    go_wp2; go_ret; exact ⟨rfl, rfl⟩
  by_cases h2 : k = 2
  · subst h2
    rw [if_neg (by decide), if_neg (by decide), if_pos rfl]
    go_enter Tryz.func155, Tryz.ntmps155
    go_wp2; go_ret; exact ⟨rfl, rfl⟩
  · rw [if_neg h0, if_neg h1, if_neg h2]
    have n0 : (k == 0) = false := beq_eq_false_iff_ne.2 h0
    have n1 : (k == 1) = false := beq_eq_false_iff_ne.2 h1
    have n2 : (k == 2) = false := beq_eq_false_iff_ne.2 h2
    clear h0 h1 h2
    go_enter Tryz.func155, Tryz.ntmps155
    go_wp2; go_ret; exact ⟨rfl, rfl⟩
theorem Mt.piecesF_step (ps : List Mt.Pc) (n i : Nat) (h : i < ps.length) : Mt.piecesF n i (ps.drop i) = (Mt.pieceB ps[i] (decide (i = 0)) (decide (i + 1 = n)) && Mt.piecesF n (i + 1) (ps.drop (i + 1))) := by
  rw [List.drop_eq_getElem_cons h]; rfl
set_option maxRecDepth 100000 in
theorem sound10_any {w : World} {v : Value} {ps : List Mt.Pc} (h : IsPcs w v ps) (hn : ps.length ≤ 9223372036854775807) : Calls Tryz.prog 137 #[v] w fun e w' => e = .returned (.bool (Mt.soundB ps)) ∧ Below w.heap.size w w' := by
  obtain ⟨a, cap, rfl, HP⟩ := h
  have HN := Lib.hid hn
  have HF0 : Hid (Mt.piecesF ps.length 0 (ps.drop 0) = Mt.piecesF ps.length 0 ps ∧ Below w.heap.size w w) := Lib.hid ⟨rfl, Below.refl _ _⟩
  have HSB : Hid (Mt.soundB ps = (decide (0 < ps.length) && Mt.piecesF ps.length 0 ps)) := Lib.hid rfl
  have HST := Lib.hid (fun i (hi : i < ps.length) => Mt.piecesF_step ps ps.length i hi)
  have HEND : Hid (Mt.piecesF ps.length ps.length (ps.drop ps.length) = true) := Lib.hid (by rw [List.drop_length]; rfl)
  obtain ⟨R, hR⟩ : ∃ R, Mt.piecesF ps.length 0 ps = R := ⟨_, rfl⟩
  rw [hR] at HF0 HSB
  obtain ⟨n, hnn⟩ : ∃ n, ps.length = n := ⟨_, rfl⟩
  have HLN := Lib.hid hnn
  rw [hnn] at HF0 HSB HEND
  rw [show ps.length = n from hnn]
  have hn0 : n ≤ 9223372036854775807 := by omega
  clear hR hnn hn
  go_enter Tryz.func137, Tryz.ntmps137
  go_wp2_with fail
  go_loopw [9] (fun iv wr => ∃ i : Nat, i ≤ n ∧ iv = .int .i64 (i : Int) ∧ Hid (Mt.piecesF n i (ps.drop i) = R ∧ Below w.heap.size w wr)) (fun iv _ => n - (intOf iv).toNat)
  case atStart => exact ⟨0, Nat.zero_le _, rfl, HF0⟩
  case round =>
    obtain ⟨i, hi, rfl, HR⟩ := hrel
    by_cases hlt : i < n
    · have hip : i < ps.length := by rw [HLN.out]; exact hlt
      obtain ⟨b, off, e0, hbl, c0, c1⟩ := HP.out i hip
      obtain ⟨k, t, hkt⟩ : ∃ k t, ps[i] = (k, t) := ⟨_, _, rfl⟩
      have hst := HST.out i hip
      rw [hkt] at c0 c1 hst
      rw [HLN.out] at hst
      have x0 := (HR.out.2.cell (p := ⟨b, off + i * 2, none⟩) hbl).trans c0
      have x1 := (HR.out.2.cell (p := ⟨b, off + i * 2 + 1, none⟩) hbl).trans c1
      dsimp only at x0 x1
      have HB := Lib.hid HR.out.2
      have HE := Lib.hid (hst.symm.trans HR.out.1)
      subst e0
      have d1 : decide ((i : Int) < (n : Int)) = true := decide_eq_true (by omega)
      have d2 : decide (i < n) = true := decide_eq_true hlt
      have f1 : ((i : Int) == 0) = decide (i = 0) := by rw [Bool.eq_iff_iff]; simp
      have f2 : ((i : Int) == (n : Int) - 1) = decide (i + 1 = n) := by rw [Bool.eq_iff_iff]; simp; omega
      obtain ⟨z1, hz1⟩ : ∃ z, decide (i = 0) = z := ⟨_, rfl⟩
      obtain ⟨z2, hz2⟩ : ∃ z, decide (i + 1 = n) = z := ⟨_, rfl⟩
      rw [hz1] at f1 HE
      rw [hz2] at f2 HE
      have hw1 : IntKind.i64.wrap ((n : Int) - 1) = (n : Int) - 1 := by rw [IntKind.wrap_i64]; omega
      have i0 : (0 : Int) ≤ (i : Int) := by omega
      clear hbl c0 c1 hkt hst HR hz1 hz2 hip
      obtain ⟨Z, hZ⟩ : ∃ Z, Mt.piecesF n (i + 1) (ps.drop (i + 1)) = Z := ⟨_, rfl⟩
      have HZ := Lib.hid hZ
      rw [hZ] at HE
      clear hZ
      cases t with
      | nil =>
        have hRf : Hid (R = false) := Lib.hid (by rw [← HE.out]; rfl)
        have e : Mt.str [] = ⟨#[]⟩ := rfl
        rw [e] at x1
        clear HE e HZ
        go_wp2_with fail
        go_ret
        exact ⟨Mt.ret_bool (show false = Mt.soundB ps by rw [HSB.out, hRf.out, Bool.and_false]), (HB.out.trans (((Below.refl _ _).alloc (Nat.le_refl _) _).mono HB.out.size))⟩
      | cons c r =>
        have hne : (Mt.str (c :: r)).toList.isEmpty = false := nonempty_str (by rw [Mt.str_size]; simp)
        have HSD := Lib.hid (fun u => stands_any k z1 z2 u)
        obtain ⟨B, hB⟩ : ∃ B, (if k = 0 then z1 else if k = 1 then true else if k = 2 then z2 else false) = B := ⟨_, rfl⟩
        have HE2 : Hid ((B && Z) = R) := Lib.hid (by
          rw [← HE.out, ← hB]
          unfold Mt.pieceB
          rw [decide_eq_true (show ((k, c :: r) : Mt.Pc).2 ≠ [] by simp), Bool.true_and])
        rw [hB] at HSD
        generalize Mt.str (c :: r) = T at *
        clear hB HE
        go_wp2_with fail
        refine (HSD.out _).mono ?_
        rintro e w2 ⟨rfl, rfl⟩
        have HB2 := Lib.hid (HB.out.trans (((Below.refl _ wr).alloc (Nat.le_refl _) (.cells #[.int .i64 k, .string T] 38)).mono HB.out.size))
        cases B with
        | false =>
          have hRf : Hid (R = false) := Lib.hid HE2.out.symm
          go_wp2_with fail
          go_ret
          exact ⟨Mt.ret_bool (show false = Mt.soundB ps by rw [HSB.out, hRf.out, Bool.and_false]), HB2.out⟩
        | true =>
          have hRZ : Hid (Z = R) := Lib.hid HE2.out
          clear HE2
          go_wp2_with fail
          go_roundw
          case rel => exact ⟨i + 1, by omega, by go_num, Lib.hid ⟨HZ.out.trans hRZ.out, HB2.out⟩⟩
          case measure => simp [intOf]; omega
    · obtain rfl : i = n := by omega
      have d1 : decide ((i : Int) < (i : Int)) = false := decide_eq_false (by omega)
      have d2 : decide (i < i) = false := decide_eq_false (by omega)
      have HRT : Hid (R = true) := Lib.hid (HR.out.1.symm.trans HEND.out)
      have HB := Lib.hid HR.out.2
      have HFN : Hid (Mt.soundB ps = decide ((0 : Int) < (i : Int))) := Lib.hid (by
        rw [HSB.out, HRT.out, Bool.and_true, decide_eq_decide]; omega)
      clear HR hlt
      obtain ⟨z, hz⟩ : ∃ z, decide ((0 : Int) < (i : Int)) = z := ⟨_, rfl⟩
      rw [hz] at HFN
      have hz2 : decide (0 < i) = z := by rw [← hz, decide_eq_decide]; omega
      go_wp2_with fail
      go_ret
      exact ⟨Mt.ret_bool (show z = Mt.soundB ps from HFN.out.symm), HB.out⟩

theorem sign4 (w : World) : Calls Tryz.prog 136 #[.int .i64 4] w fun e w' => e = .returned (.string ⟨#[61]⟩) ∧ w = w' := by
  go_enter Tryz.func136, Tryz.ntmps136
  go_wp2; go_ret; exact ⟨rfl, rfl⟩
theorem branch4 (w : World) : Calls Tryz.prog 108 #[.int .i64 4] w fun e w' => e = .returned (.bool false) ∧ w = w' := by
  go_enter Tryz.func108, Tryz.ntmps108
  go_wp2; go_ret; exact ⟨rfl, rfl⟩
theorem place11 (w : World) : Calls Tryz.prog 107 #[.int .i64 1, .int .i64 1] w fun e w' => e = .returned (.int .i64 0) ∧ w = w' := by
  go_enter Tryz.func107, Tryz.ntmps107
  go_wp2; go_ret; exact ⟨rfl, rfl⟩
set_option maxRecDepth 100000 in
/-- A filter of pieces. -/
theorem leaf4_any {w : World} {v : Value} {ps : List Mt.Pc} (h : IsPcs w v ps) (hn : ps.length ≤ 9223372036854775807) (t : List UInt8) (ht : Mt.typL t = true) (x : ByteArray) : Calls Tryz.prog 109 #[.agg #[.int .i64 4, .string (Mt.str t), .string x, v, .slice none 0 0]] w fun e w' => e = .returned (.int .i64 (if Mt.soundB ps then 0 else 4)) ∧ Below w.heap.size w w' := by
  have HT := Lib.hid (fun u => type_any (Mt.str t) u)
  rw [Mt.str_data, ht] at HT
  obtain ⟨a, cap, hv, -⟩ := id h
  have HS := Lib.hid (fun u (hu : Below w.heap.size w u) => sound10_any (h.below hu) hn)
  subst hv
  generalize Mt.soundB ps = b at *
  generalize Mt.str t = T at *
  have HB1 := Lib.hid ((Below.refl w.heap.size w).alloc (Nat.le_refl _) (.cells #[.int .i64 4, .string T, .string x, .slice a ps.length cap, .slice none 0 0] 56))
  have HX1 := Lib.hid (heap_alloc_new w (.cells #[.int .i64 4, .string T, .string x, .slice a ps.length cap, .slice none 0 0] 56))
  have HLT : Hid (w.heap.size < (w.alloc (.cells #[.int .i64 4, .string T, .string x, .slice a ps.length cap, .slice none 0 0] 56)).heap.size) := Lib.hid (by simp)
  clear h hn ht
  go_enter Tryz.func109, Tryz.ntmps109
  go_wp2_with fail
  refine (sign4 _).mono ?_
  rintro e w2 ⟨rfl, rfl⟩
  generalize (w.alloc (.cells #[.int .i64 4, .string T, .string x, .slice a ps.length cap, .slice none 0 0] 56)) = w1 at *
  have HXK : Hid (∀ u, Below w1.heap.size w1 u → u.cell? ⟨w.heap.size, 0, none⟩ = some (.int .i64 4) ∧ u.cell? ⟨w.heap.size, 1, none⟩ = some (.string T) ∧ u.cell? ⟨w.heap.size, 3, none⟩ = some (.slice a ps.length cap)) := Lib.hid (fun u hu => by
    have hrow := (hu.block w.heap.size HLT.out).trans HX1.out
    exact ⟨by rw [cell_of_row _ _ _ _ _ _ hrow]; rfl, by rw [cell_of_row _ _ _ _ _ _ hrow]; rfl, by rw [cell_of_row _ _ _ _ _ _ hrow]; rfl⟩)
  obtain ⟨x0, x1, x3⟩ := HXK.out w1 (Below.refl _ _)
  go_wp2_with fail
  refine (HT.out _).mono ?_
  rintro e w2 ⟨rfl, hb⟩
  have HB2 := Lib.hid (HB1.out.trans (hb.mono HB1.out.size))
  clear x0 x1 x3
  obtain ⟨x0, x1, x3⟩ := HXK.out w2 hb
  clear hb HT
  go_wp2_with fail
  refine (HS.out _ HB2.out).mono ?_
  rintro e w3 ⟨rfl, hb⟩
  have HB3 := Lib.hid (HB2.out.trans (hb.mono HB2.out.size))
  clear hb HS
  cases b <;> (go_wp2_with fail; go_ret; exact ⟨rfl, HB3.out⟩)
set_option maxRecDepth 100000 in
theorem check4_any {w : World} {v : Value} {ps : List Mt.Pc} (h : IsPcs w v ps) (hn : ps.length ≤ 9223372036854775807) (t : List UInt8) (ht : Mt.typL t = true) (x : ByteArray) : Calls Tryz.prog 52 #[.agg #[.int .i64 4, .string (Mt.str t), .string x, v, .slice none 0 0]] w fun e w' => e = .returned (.int .i64 (if Mt.soundB ps then 0 else 4)) ∧ Below w.heap.size w w' := by
  have HL := Lib.hid (fun u (hu : Below w.heap.size w u) => leaf4_any (h.below hu) hn t ht x)
  obtain ⟨a, cap, hv, -⟩ := id h
  subst hv
  obtain ⟨E, hE⟩ : ∃ E : Int, (if Mt.soundB ps then 0 else 4) = E := ⟨_, rfl⟩
  rw [hE] at HL ⊢
  generalize Mt.str t = T at *
  clear h hn ht hE
  go_enter Tryz.func52, Tryz.ntmps52
  go_wp2_with (first
    | (go_at_call 108; refine (branch4 _).mono ?_; rintro e w2 ⟨rfl, rfl⟩)
    | (go_at_call 107; refine (place11 _).mono ?_; rintro e w2 ⟨rfl, rfl⟩)
    | (go_at_call 78; go_in))
  refine (HL.out _ ((((Below.refl _ _).alloc (Nat.le_refl _) _).alloc (by simp) _).alloc (by simp; omega) _)).mono ?_
  rintro e w2 ⟨rfl, hb⟩
  have HB2 := Lib.hid (((((Below.refl w.heap.size w).alloc (Nat.le_refl _) _).alloc (by simp) _).alloc (by simp; omega) _).trans (hb.mono (by simp; omega)))
  clear hb
  go_wp2_with fail
  go_ret
  exact ⟨rfl, HB2.out⟩
/-- Whether pieces are sound. -/
theorem sound12_any {w : World} {v : Value} {ps : List Mt.Pc} (h : IsPcs w v ps) (hn : ps.length ≤ 9223372036854775807) : Calls Tryz.prog 29 #[v] w fun e w' => e = .returned (.bool (Mt.soundB ps)) ∧ Below w.heap.size w w' := by
  have HC := Lib.hid (check4_any h hn [99, 110] (by decide) ⟨#[]⟩)
  obtain ⟨a, cap, hv, -⟩ := id h
  subst hv
  generalize Mt.soundB ps = b at *
  clear h hn
  go_enter Tryz.func29, Tryz.ntmps29
  go_wp2_with fail
  refine (HC.out).mono ?_
  rintro e w1 ⟨rfl, hb⟩
  have HB := Lib.hid hb
  clear hb
  cases b <;> (go_wp2_with fail; go_ret; exact ⟨rfl, HB.out⟩)
end Go.Proofs.YtdfpnhdamkogcaaGreatDoor
