/-
  strings.Cut, strings.Split at one byte; CutPrefix, CutSuffix; what kindOf comes to.
-/
import Derived.Test.YtnlbhmjgeedgpaaDoorFtA
import Derived.Test.YtnlbhmjgeedgpaaDoorSx
import Derived.Test.YtnlbhmjgeedgpaaDoorShelfF
set_option linter.unusedVariables false
set_option linter.unusedSimpArgs false
namespace Go.Proofs.YtnlbhmjgeedgpaaDoor
open Go.RowKit

theorem slIndex_par (s : ByteArray) (w : World) :
    Calls Tryd.prog 77 #[.string s, .string ⟨#[41]⟩] w fun e w' => e = .returned (.int .i64 (Lib.indexByte s.data.toList 41)) ∧ w = w' := by
  have H := Lib.hid (slIndexByte_any s 41 w)
  go_enter Tryd.func77, Tryd.ntmps77
  go_wp2_with (go_at_call 81; refine (H.out).mono ?_; rintro e w' ⟨rfl, rfl⟩)
  · have h : ([41] == s.toList) = true := by assumption
    go_ret
    refine ⟨?_, rfl⟩
    have e : s.data.toList = [41] := by rw [← ByteArray.toList_eq]; exact (beq_iff_eq.1 h).symm
    rw [e]
    simp [Lib.indexByte]
  · go_ret
    exact ⟨rfl, rfl⟩

theorem slIndex_star (s : ByteArray) (w : World) :
    Calls Tryd.prog 77 #[.string s, .string ⟨#[42]⟩] w fun e w' => e = .returned (.int .i64 (Lib.indexByte s.data.toList 42)) ∧ w = w' := by
  have H := Lib.hid (slIndexByte_any s 42 w)
  go_enter Tryd.func77, Tryd.ntmps77
  go_wp2_with (go_at_call 81; refine (H.out).mono ?_; rintro e w' ⟨rfl, rfl⟩)
  · have h : ([42] == s.toList) = true := by assumption
    go_ret
    refine ⟨?_, rfl⟩
    have e : s.data.toList = [42] := by rw [← ByteArray.toList_eq]; exact (beq_iff_eq.1 h).symm
    rw [e]
    simp [Lib.indexByte]
  · go_ret
    exact ⟨rfl, rfl⟩


/-- What Cut at a parenthesis answers. -/
def cutPV (l : List UInt8) : Value := match Mt.cutC 41 l with
  | none => .tuple #[.string (Mt.str l), .string ByteArray.empty, .bool false]
  | some (a, b) => .tuple #[.string (Mt.str a), .string (Mt.str b), .bool true]
theorem Mt.cutC_index (d : UInt8) : ∀ l : List UInt8, (Mt.cutC d l = none ∧ Lib.indexByte l d = -1) ∨ ∃ a b, Mt.cutC d l = some (a, b) ∧ Lib.indexByte l d = (a.length : Int) ∧ l = a ++ d :: b
  | [] => .inl ⟨rfl, rfl⟩
  | c :: r => by
    by_cases h : c = d
    · subst h
      exact .inr ⟨[], r, by simp [Mt.cutC], by simp [Lib.indexByte], rfl⟩
    · have hb : (c == d) = false := by simpa using h
      rcases Mt.cutC_index d r with ⟨h1, h2⟩ | ⟨a, b, h1, h2, h3⟩
      · exact .inl ⟨by simp [Mt.cutC, h, h1], by simp [Lib.indexByte, hb, h2]⟩
      · refine .inr ⟨c :: a, b, by simp [Mt.cutC, h, h1], ?_, by rw [h3]; rfl⟩
        have hn : (((a.length : Int)) == -1) = false := by simp
        simp only [Lib.indexByte, hb, h2, hn]
        rfl
set_option maxRecDepth 100000 in
theorem slCutP_any (s : ByteArray) (w : World) (hs : s.size ≤ 140737488351232) :
    Calls Tryd.prog 71 #[.string s, .string ⟨#[41]⟩] w fun e w' => e = .returned (cutPV s.data.toList) ∧ Below w.heap.size w w' := by
  have H := Lib.hid (slIndex_par s w)
  have hl : s.data.toList.length = s.size := rfl
  rcases Mt.cutC_index 41 s.data.toList with ⟨h1, h2⟩ | ⟨a, b, h1, h2, h3⟩
  · rw [h2] at H
    have HV : Hid (cutPV s.data.toList = .tuple #[.string s, .string ByteArray.empty, .bool false]) := by unfold cutPV; rw [h1]; exact Lib.hid rfl
    rw [HV.out]
    clear h1 h2 hl
    go_enter Tryd.func71, Tryd.ntmps71
    go_wp2_with fail
    refine (H.out).mono ?_
    rintro e w' ⟨rfl, rfl⟩
    go_wp2_with fail
    exact bodyPost_ret (v := .tuple #[.string s, .string ByteArray.empty, .bool false]) (by simp [results, Tryd.results71, go_sem]; rfl) rfl ⟨rfl, Below.refl _ _⟩
  · rw [h2] at H
    have HV : Hid (cutPV s.data.toList = .tuple #[.string (Mt.str a), .string (Mt.str b), .bool true]) := by unfold cutPV; rw [h1]; exact Lib.hid rfl
    rw [HV.out]
    have hal : a.length + 1 + b.length = s.size := by rw [← hl, h3]; simp; omega
    have e1 : s.extract 0 a.length = Mt.str a := by rw [Mt.extract_take, h3]; simp
    have e2 : s.extract (a.length + 1) s.size = Mt.str b := by rw [Mt.extract_drop, h3]; simp
    have hw2 : ((a.length : Int) + 1).toNat = a.length + 1 := by omega
    have hw1 : IntKind.i64.wrap ((a.length : Int) + 1) = (a.length : Int) + 1 := IntWalk.i64_in _ (by omega)
    have hw3 : (0 : Int) ≤ (a.length : Int) + 1 := by omega
    have hw4 : (a.length : Int) + 1 ≤ s.size := by omega
    have hw5 : (a.length : Int) ≤ s.size := by omega
    have hw6 : a.length ≤ s.size := by omega
    have hw7 : (0 : Int) ≤ (a.length : Int) := by omega
    clear h1 h2 hl h3 hal
    generalize a.length = n at *
    go_enter Tryd.func71, Tryd.ntmps71
    go_wp2_with fail
    refine (H.out).mono ?_
    rintro e w' ⟨rfl, rfl⟩
    go_wp2_with fail
    go_quiet (fail)
    go_wp2
    exact bodyPost_ret (v := .tuple #[.string (Mt.str a), .string (Mt.str b), .bool true]) (by simp [results, Tryd.results71, go_sem]) rfl ⟨rfl, below_drewN _ _⟩
theorem cutP_any (s : ByteArray) (w : World) (hs : s.size ≤ 140737488351232) :
    Calls Tryd.prog 60 #[.string s, .string ⟨#[41]⟩] w fun e w' => e = .returned (cutPV s.data.toList) ∧ Below w.heap.size w w' := by
  have H := Lib.hid (slCutP_any s w hs)
  have HC : Hid (∃ a b c, cutPV s.data.toList = .tuple #[.string a, .string b, .bool c]) := by
    unfold cutPV; cases Mt.cutC 41 s.data.toList <;> exact Lib.hid ⟨_, _, _, rfl⟩
  obtain ⟨a, b, c, hc⟩ := HC.out
  rw [hc] at H ⊢
  clear HC hc
  go_enter Tryd.func60, Tryd.ntmps60
  go_wp2_with fail
  refine (H.out).mono ?_
  rintro e w' ⟨rfl, hb⟩
  have HB := Lib.hid hb
  clear hb
  go_wp2_with fail
  exact bodyPost_ret (v := .tuple #[.string a, .string b, .bool c]) (by simp [results, Tryd.results60, go_sem]) rfl ⟨rfl, HB.out⟩

theorem Mt.cutE_cutC : ∀ l, Mt.cutE l = Mt.cutC 61 l
  | [] => rfl
  | c :: r => by
    unfold Mt.cutE Mt.cutC
    split
    · rfl
    · rw [Mt.cutE_cutC r]; cases Mt.cutC 61 r <;> rfl
theorem ft_hasp (s t : ByteArray) (w : World) : Calls Tryd.prog 59 #[.string s, .string t] w fun e w' => e = .returned (.bool (Lib.hasPrefix s.data.toList t.data.toList)) ∧ w = w' :=
  (Any.strings_HasPrefix Tryd.ftHasP s t w).mono fun _ _ ⟨h1, h2⟩ => ⟨h1, h2.symm⟩
theorem ft_cutp (s t : ByteArray) (w : World) : Calls Tryd.prog 47 #[.string s, .string t] w fun e w' => e = .returned (.tuple #[.string (Mt.str (Lib.trimPrefix s.data.toList t.data.toList)), .bool (Lib.hasPrefix s.data.toList t.data.toList)]) ∧ w = w' :=
  (Any.strings_CutPrefix Tryd.ftCutP s t w).mono fun _ _ ⟨h1, h2⟩ => ⟨h1, h2.symm⟩
theorem ft_cuts (s t : ByteArray) (hs : s.size ≤ 9223372036854775807) (w : World) : Calls Tryd.prog 72 #[.string s, .string t] w fun e w' => e = .returned (.tuple #[.string (Mt.str (Lib.trimSuffix s.data.toList t.data.toList)), .bool (Lib.hasSuffix s.data.toList t.data.toList)]) ∧ w = w' :=
  (Any.strings_CutSuffix Tryd.ftCutS s t w hs).mono fun _ _ ⟨h1, h2⟩ => ⟨h1, h2.symm⟩
theorem index_star (s : ByteArray) (w : World) : Calls Tryd.prog 89 #[.string s, .string ⟨#[42]⟩] w fun e w' => e = .returned (.int .i64 (Lib.indexByte s.data.toList 42)) ∧ w = w' := by
  have H := Lib.hid (slIndex_star s w)
  go_enter Tryd.func89, Tryd.ntmps89
  go_wp2_with fail
  refine (H.out).mono ?_
  rintro e w' ⟨rfl, rfl⟩
  go_wp2_with fail
  go_ret
  exact ⟨rfl, rfl⟩
theorem Mt.splitK_star : ∀ l : List UInt8, Lib.splitK [42] 0 (l.count 42) l = Mt.splitF 42 l
  | [] => rfl
  | c :: r => by
    have ih := Mt.splitK_star r
    by_cases h : c = 42
    · subst h
      rw [List.count_cons_self]
      have hi : Lib.index (42 :: r) [42] = 0 := by rw [Lib.index_one]; rfl
      simp [Lib.splitK, hi, Mt.splitF, ih]
    · rw [List.count_cons_of_ne h]
      have hs : Mt.splitF 42 (c :: r) = match Mt.splitF 42 r with | [] => [[c]] | p :: ps => (c :: p) :: ps := by simp only [Mt.splitF]; rw [if_neg h]; rfl
      rw [hs, ← ih]
      cases hk : r.count 42 with
      | zero => rfl
      | succ k =>
        have hm : (42 : UInt8) ∈ r := List.count_pos_iff.1 (by omega)
        have hb : (c == 42) = false := by simpa using h
        rcases Mt.cutC_index 42 r with ⟨h1, h2⟩ | ⟨a, b, h1, h2, h3⟩
        · exact absurd rfl (Mt.cutC_none h1 42 hm)
        · have hn : (((a.length : Int)) == -1) = false := by simp
          have hi1 : Lib.index r [42] = (a.length : Int) := by rw [Lib.index_one]; exact h2
          have hi2 : Lib.index (c :: r) [42] = (a.length : Int) + 1 := by
            rw [Lib.index_one]
            simp only [Lib.indexByte, hb, h2, hn]
            rfl
          have hn2 : (((a.length : Int) + 1) == -1) = false := by simp; omega
          have e1 : ((a.length : Int) + 1).toNat = a.length + 1 := by omega
          simp only [Lib.splitK, hi1, hi2, hn, hn2]
          simp [e1]
theorem split_star (s : ByteArray) (hs : s.size ≤ 1000000) (w : World) : ∃ ps : List ByteArray, ps.map (·.data.toList) = Mt.splitF 42 s.data.toList ∧
    Calls Tryd.prog 74 #[.string s, .string ⟨#[42]⟩] w fun e w' => e = .returned (.slice (some ⟨w.heap.size, 0, none⟩) ps.length ps.length) ∧ w' = w.alloc (.cells (ps.map Value.string).toArray 9) := by
  have hcnt : Lib.countB s ⟨#[42]⟩ = s.data.toList.count 42 := Lib.count_one 42 s.data.toList
  have hle := Lib.countB_le ⟨#[42]⟩ (by decide) s.size s (Nat.le_refl _)
  have hlen := Lib.splitB_all ⟨#[42]⟩ (by decide) 0 _ s rfl
  refine ⟨Lib.splitB ⟨#[42]⟩ 0 (Lib.countB s ⟨#[42]⟩) s, ?_, ?_⟩
  · rw [Lib.splitB_data, hcnt]; exact Mt.splitK_star _
  have c := Any.strings_genSplit_core Tryd.ftGen (by kernel_rfl) s ⟨#[42]⟩ 0 (-1) (Lib.countB s ⟨#[42]⟩ + 1) w (by omega) (by decide) (Nat.zero_le _)
    (fun x cs hx => (index_star x _).mono fun e w' ⟨h1, h2⟩ => ⟨h1.trans (by rw [show Lib.indexB x ⟨#[42]⟩ = Lib.indexByte x.data.toList 42 from Lib.index_one _ _]), h2.symm⟩)
    ((Any.strings_Count_one Tryd.ftCount s 42 w).mono fun e w' ⟨h1, h2⟩ => ⟨h1.trans (by rw [show Lib.countB s ⟨#[42]⟩ = Lib.countByte s.data.toList 42 from hcnt]), h2⟩) (by decide) (by decide) (by rw [if_pos (by decide)]; omega)
  rw [Nat.add_sub_cancel, hlen] at c
  have e2 : Lib.cellsOf (Lib.splitB ⟨#[42]⟩ 0 (Lib.countB s ⟨#[42]⟩) s) (Lib.countB s ⟨#[42]⟩ + 1) = ((Lib.splitB ⟨#[42]⟩ 0 (Lib.countB s ⟨#[42]⟩) s).map Value.string).toArray := by rw [← hlen]; exact Lib.cellsOf_full _
  rw [e2] at c
  rw [hlen]
  have HC := Lib.hid c
  generalize (Lib.splitB ⟨#[42]⟩ 0 (Lib.countB s ⟨#[42]⟩) s) = ps at *
  generalize Lib.countB s ⟨#[42]⟩ + 1 = n at *
  clear c e2 hlen hcnt hle
  go_enter Tryd.func74, Tryd.ntmps74
  go_wp2_with fail
  refine Calls.mono HC.out ?_
  rintro e w' ⟨rfl, hw⟩
  have HW := Lib.hid hw
  clear hw
  go_wp2_with fail
  go_ret
  exact ⟨rfl, HW.out⟩
end Go.Proofs.YtnlbhmjgeedgpaaDoor
