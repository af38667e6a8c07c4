/-
  Whether pieces are such as a filter has.
-/
import Derived.Test.YtnlbhmjgeedgpaaDoorSyE0
import Derived.Test.YtnlbhmjgeedgpaaDoorDnA
set_option linter.unusedVariables false
set_option linter.unusedSimpArgs false
namespace Go.Proofs.YtnlbhmjgeedgpaaDoor
open Go.RowKit Go.Lib

theorem stands_any (k : Int) (f l : Bool) (w : World) : Calls Tryd.prog 69 #[.int .i64 k, .bool f, .bool l] w fun e w' => e = .returned (.bool (if k = 0 then f else if k = 1 then true else if k = 2 then l else false)) ∧ w = w' := by
  by_cases h0 : k = 0
  · subst h0
    rw [if_pos rfl]
    go_enter Tryd.func69, Tryd.ntmps69
    go_wp2; go_ret; exact ⟨rfl, rfl⟩
  by_cases h1 : k = 1
  · subst h1
    rw [if_neg (by decide), if_pos rfl]
    go_enter Tryd.func69, Tryd.ntmps69
    go_wp2; go_ret; exact ⟨rfl, rfl⟩
  by_cases h2 : k = 2
  · subst h2
    rw [if_neg (by decide), if_neg (by decide), if_pos rfl]
    go_enter Tryd.func69, Tryd.ntmps69
    go_wp2; go_ret; exact ⟨rfl, rfl⟩
  · rw [if_neg h0, if_neg h1, if_neg h2]
    have n0 : (k == 0) = false := beq_eq_false_iff_ne.2 h0
    have n1 : (k == 1) = false := beq_eq_false_iff_ne.2 h1
    have n2 : (k == 2) = false := beq_eq_false_iff_ne.2 h2
    clear h0 h1 h2
    go_enter Tryd.func69, Tryd.ntmps69
    go_wp2; go_ret; exact ⟨rfl, rfl⟩
theorem Mt.piecesF_step (ps : List Mt.Pc) (n i : Nat) (h : i < ps.length) : Mt.piecesF n i (ps.drop i) = (Mt.pieceB ps[i] (decide (i = 0)) (decide (i + 1 = n)) && Mt.piecesF n (i + 1) (ps.drop (i + 1))) := by
  rw [List.drop_eq_getElem_cons h]; rfl
set_option maxRecDepth 100000 in
theorem sound10_any {w : World} {v : Value} {ps : List Mt.Pc} (h : IsPcs w v ps) (hn : ps.length ≤ 9223372036854775807) : Calls Tryd.prog 55 #[v] w fun e w' => e = .returned (.bool (Mt.soundB ps)) ∧ Below w.heap.size w w' := by
  obtain ⟨a, cap, rfl, HP⟩ := h
  have HN := Lib.hid hn
  have HF0 : Hid (Mt.piecesF ps.length 0 (ps.drop 0) = Mt.piecesF ps.length 0 ps ∧ Below w.heap.size w w) := Lib.hid ⟨rfl, Below.refl _ _⟩
  have HSB : Hid (Mt.soundB ps = (decide (0 < ps.length) && Mt.piecesF ps.length 0 ps)) := Lib.hid rfl
  have HST := Lib.hid (fun i (hi : i < ps.length) => Mt.piecesF_step ps ps.length i hi)
  have HEND : Hid (Mt.piecesF ps.length ps.length (ps.drop ps.length) = true) := Lib.hid (by rw [List.drop_length]; rfl)
  obtain ⟨R, hR⟩ : ∃ R, Mt.piecesF ps.length 0 ps = R := ⟨_, rfl⟩
  rw [hR] at HF0 HSB
  obtain ⟨n, hnn⟩ : ∃ n, ps.length = n := ⟨_, rfl⟩
  have HLN := Lib.hid hnn
  rw [hnn] at HF0 HSB HEND
  rw [show ps.length = n from hnn]
  have hn0 : n ≤ 9223372036854775807 := by omega
  clear hR hnn hn
  go_enter Tryd.func55, Tryd.ntmps55
  go_wp2_with fail
  go_loopw [9] (fun iv wr => ∃ i : Nat, i ≤ n ∧ iv = .int .i64 (i : Int) ∧ Hid (Mt.piecesF n i (ps.drop i) = R ∧ Below w.heap.size w wr)) (fun iv _ => n - (RowKit.intOf iv).toNat)
  case atStart => exact ⟨0, Nat.zero_le _, rfl, HF0⟩
  case round =>
    obtain ⟨i, hi, rfl, HR⟩ := hrel
    by_cases hlt : i < n
    · have hip : i < ps.length := by rw [HLN.out]; exact hlt
      obtain ⟨b, off, e0, hbl, c0, c1⟩ := HP.out i hip
      obtain ⟨k, t, hkt⟩ : ∃ k t, ps[i] = (k, t) := ⟨_, _, rfl⟩
      have hst := HST.out i hip
      rw [hkt] at c0 c1 hst
      rw [HLN.out] at hst
      have x0 := (HR.out.2.cell (p := ⟨b, off + i * 2, none⟩) hbl).trans c0
      have x1 := (HR.out.2.cell (p := ⟨b, off + i * 2 + 1, none⟩) hbl).trans c1
      dsimp only at x0 x1
      have HB := Lib.hid HR.out.2
      have HE := Lib.hid (hst.symm.trans HR.out.1)
      subst e0
      have d1 : decide ((i : Int) < (n : Int)) = true := decide_eq_true (by omega)
      have d2 : decide (i < n) = true := decide_eq_true hlt
      have f1 : ((i : Int) == 0) = decide (i = 0) := by rw [Bool.eq_iff_iff]; simp
      have f2 : ((i : Int) == (n : Int) - 1) = decide (i + 1 = n) := by rw [Bool.eq_iff_iff]; simp; omega
      obtain ⟨z1, hz1⟩ : ∃ z, decide (i = 0) = z := ⟨_, rfl⟩
      obtain ⟨z2, hz2⟩ : ∃ z, decide (i + 1 = n) = z := ⟨_, rfl⟩
      rw [hz1] at f1 HE
      rw [hz2] at f2 HE
      have hw1 : IntKind.i64.wrap ((n : Int) - 1) = (n : Int) - 1 := by rw [IntKind.wrap_i64]; omega
      have i0 : (0 : Int) ≤ (i : Int) := by omega
      clear hbl c0 c1 hkt hst HR hz1 hz2 hip
      obtain ⟨Z, hZ⟩ : ∃ Z, Mt.piecesF n (i + 1) (ps.drop (i + 1)) = Z := ⟨_, rfl⟩
      have HZ := Lib.hid hZ
      rw [hZ] at HE
      clear hZ
      cases t with
      | nil =>
        have hRf : Hid (R = false) := Lib.hid (by rw [← HE.out]; rfl)
        have e : Mt.str [] = ⟨#[]⟩ := rfl
        rw [e] at x1
        clear HE e HZ
        go_wp2_with fail
        go_ret
        exact ⟨Mt.ret_bool (show false = Mt.soundB ps by rw [HSB.out, hRf.out, Bool.and_false]), (HB.out.trans (((Below.refl _ _).alloc (Nat.le_refl _) _).mono HB.out.size))⟩
      | cons c r =>
        have hne : (Mt.str (c :: r)).toList.isEmpty = false := nonempty_str (by rw [Mt.str_size]; simp)
        have HSD := Lib.hid (fun u => stands_any k z1 z2 u)
        obtain ⟨B, hB⟩ : ∃ B, (if k = 0 then z1 else if k = 1 then true else if k = 2 then z2 else false) = B := ⟨_, rfl⟩
        have HE2 : Hid ((B && Z) = R) := Lib.hid (by
          rw [← HE.out, ← hB]
          unfold Mt.pieceB
          rw [decide_eq_true (show ((k, c :: r) : Mt.Pc).2 ≠ [] by simp), Bool.true_and])
        rw [hB] at HSD
        generalize Mt.str (c :: r) = T at *
        clear hB HE
        go_wp2_with fail
        refine (HSD.out _).mono ?_
        rintro e w2 ⟨rfl, rfl⟩
        have HB2 := Lib.hid (HB.out.trans (((Below.refl _ wr).alloc (Nat.le_refl _) (.cells #[.int .i64 k, .string T] 53)).mono HB.out.size))
        cases B with
        | false =>
          have hRf : Hid (R = false) := Lib.hid HE2.out.symm
          go_wp2_with fail
          go_ret
          exact ⟨Mt.ret_bool (show false = Mt.soundB ps by rw [HSB.out, hRf.out, Bool.and_false]), HB2.out⟩
        | true =>
          have hRZ : Hid (Z = R) := Lib.hid HE2.out
          clear HE2
          go_wp2_with fail
          go_roundw
          case rel => exact ⟨i + 1, by omega, by go_num, Lib.hid ⟨HZ.out.trans hRZ.out, HB2.out⟩⟩
          case measure => simp [RowKit.intOf]; omega
    · obtain rfl : i = n := by omega
      have d1 : decide ((i : Int) < (i : Int)) = false := decide_eq_false (by omega)
      have d2 : decide (i < i) = false := decide_eq_false (by omega)
      have HRT : Hid (R = true) := Lib.hid (HR.out.1.symm.trans HEND.out)
      have HB := Lib.hid HR.out.2
      have HFN : Hid (Mt.soundB ps = decide ((0 : Int) < (i : Int))) := Lib.hid (by
        rw [HSB.out, HRT.out, Bool.and_true, decide_eq_decide]; omega)
      clear HR hlt
      obtain ⟨z, hz⟩ : ∃ z, decide ((0 : Int) < (i : Int)) = z := ⟨_, rfl⟩
      rw [hz] at HFN
      have hz2 : decide (0 < i) = z := by rw [← hz, decide_eq_decide]; omega
      go_wp2_with fail
      go_ret
      exact ⟨Mt.ret_bool (show z = Mt.soundB ps from HFN.out.symm), HB.out⟩
end Go.Proofs.YtnlbhmjgeedgpaaDoor
