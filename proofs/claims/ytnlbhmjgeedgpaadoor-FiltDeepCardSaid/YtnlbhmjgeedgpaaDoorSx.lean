/-
  strings.IndexByte, strings.Cut at one byte, strings.HasPrefix at one byte.
-/
import Derived.Test.YtnlbhmjgeedgpaaDoorTx
import Derived.Lib.Bytealg
import Derived.Test.YtnlbhmjgeedgpaaDoorDnMath
set_option linter.unusedVariables false
set_option linter.unusedSimpArgs false
namespace Go.Proofs.YtnlbhmjgeedgpaaDoor
open Go.RowKit

set_option maxRecDepth 100000 in
theorem slIndexByte_any (s : ByteArray) (c : Int) (w : World) :
    Calls Tryd.prog 81 #[.string s, .int .u8 c] w fun e w' => e = .returned (.int .i64 (Lib.indexByte s.data.toList c.toNat.toUInt8)) ∧ w = w' := by
  go_enter Tryd.func81, Tryd.ntmps81
  go_wp2
  rw [run_callFunc_extern Tryd.func90 (by kernel_rfl) (by kernel_rfl) (by kernel_rfl) (e := Extern.BytealgIndexByte.indexByte) (by kernel_rfl), Lib.run_indexByteString]
  simp only [Result.andThen]
  rw [Oper.upon_value]
  go_wp2
  go_ret
  exact ⟨rfl, rfl⟩
theorem slIndex_eq (s : ByteArray) (w : World) :
    Calls Tryd.prog 77 #[.string s, .string ⟨#[61]⟩] w fun e w' => e = .returned (.int .i64 (Lib.indexByte s.data.toList 61)) ∧ w = w' := by
  have H := Lib.hid (slIndexByte_any s 61 w)
  go_enter Tryd.func77, Tryd.ntmps77
  go_wp2_with (go_at_call 81; refine (H.out).mono ?_; rintro e w' ⟨rfl, rfl⟩)
  · have h : ([61] == s.toList) = true := by assumption
    go_ret
    refine ⟨?_, rfl⟩
    have e : s.data.toList = [61] := by rw [← ByteArray.toList_eq]; exact (beq_iff_eq.1 h).symm
    rw [e]
    simp [Lib.indexByte]
  · go_ret
    exact ⟨rfl, rfl⟩

/-- What Cut at an equals sign answers. -/
def cutV (l : List UInt8) : Value := match Mt.cutE l with
  | none => .tuple #[.string (Mt.str l), .string ByteArray.empty, .bool false]
  | some (a, b) => .tuple #[.string (Mt.str a), .string (Mt.str b), .bool true]
theorem Mt.cut_index : ∀ l : List UInt8, (Mt.cutE l = none ∧ Lib.indexByte l 61 = -1) ∨ ∃ a b, Mt.cutE l = some (a, b) ∧ Lib.indexByte l 61 = (a.length : Int) ∧ l = a ++ 61 :: b
  | [] => .inl ⟨rfl, rfl⟩
  | c :: r => by
    by_cases h : c = 61
    · subst h
      exact .inr ⟨[], r, by simp [Mt.cutE], by simp [Lib.indexByte], rfl⟩
    · have hb : (c == 61) = false := by simpa using h
      rcases Mt.cut_index r with ⟨h1, h2⟩ | ⟨a, b, h1, h2, h3⟩
      · exact .inl ⟨by simp [Mt.cutE, h, h1], by simp [Lib.indexByte, hb, h2]⟩
      · refine .inr ⟨c :: a, b, by simp [Mt.cutE, h, h1], ?_, by rw [h3]; rfl⟩
        have hn : (((a.length : Int)) == -1) = false := by simp
        simp only [Lib.indexByte, hb, h2, hn]
        rfl
set_option maxRecDepth 100000 in
theorem slCut_any (s : ByteArray) (w : World) (hs : s.size ≤ 140737488351232) :
    Calls Tryd.prog 71 #[.string s, .string ⟨#[61]⟩] w fun e w' => e = .returned (cutV s.data.toList) ∧ Below w.heap.size w w' := by
  have H := Lib.hid (slIndex_eq s w)
  have hl : s.data.toList.length = s.size := rfl
  rcases Mt.cut_index s.data.toList with ⟨h1, h2⟩ | ⟨a, b, h1, h2, h3⟩
  · rw [h2] at H
    have HV : Hid (cutV s.data.toList = .tuple #[.string s, .string ByteArray.empty, .bool false]) := by unfold cutV; rw [h1]; exact Lib.hid rfl
    rw [HV.out]
    clear h1 h2 hl
    go_enter Tryd.func71, Tryd.ntmps71
    go_wp2_with fail
    refine (H.out).mono ?_
    rintro e w' ⟨rfl, rfl⟩
    go_wp2_with fail
    exact bodyPost_ret (v := .tuple #[.string s, .string ByteArray.empty, .bool false]) (by simp [results, Tryd.results71, go_sem]; rfl) rfl ⟨rfl, Below.refl _ _⟩
  · rw [h2] at H
    have HV : Hid (cutV s.data.toList = .tuple #[.string (Mt.str a), .string (Mt.str b), .bool true]) := by unfold cutV; rw [h1]; exact Lib.hid rfl
    rw [HV.out]
    have hal : a.length + 1 + b.length = s.size := by rw [← hl, h3]; simp; omega
    have e1 : s.extract 0 a.length = Mt.str a := by rw [Mt.extract_take, h3]; simp
    have e2 : s.extract (a.length + 1) s.size = Mt.str b := by rw [Mt.extract_drop, h3]; simp
    have hw2 : ((a.length : Int) + 1).toNat = a.length + 1 := by omega
    have hw1 : IntKind.i64.wrap ((a.length : Int) + 1) = (a.length : Int) + 1 := IntWalk.i64_in _ (by omega)
    have hw3 : (0 : Int) ≤ (a.length : Int) + 1 := by omega
    have hw4 : (a.length : Int) + 1 ≤ s.size := by omega
    have hw5 : (a.length : Int) ≤ s.size := by omega
    have hw6 : a.length ≤ s.size := by omega
    have hw7 : (0 : Int) ≤ (a.length : Int) := by omega
    clear h1 h2 hl h3 hal
    generalize a.length = n at *
    go_enter Tryd.func71, Tryd.ntmps71
    go_wp2_with fail
    refine (H.out).mono ?_
    rintro e w' ⟨rfl, rfl⟩
    go_wp2_with fail
    go_quiet (fail)
    go_wp2
    exact bodyPost_ret (v := .tuple #[.string (Mt.str a), .string (Mt.str b), .bool true]) (by simp [results, Tryd.results71, go_sem]) rfl ⟨rfl, below_drewN _ _⟩
theorem cut_any (s : ByteArray) (w : World) (hs : s.size ≤ 140737488351232) :
    Calls Tryd.prog 60 #[.string s, .string ⟨#[61]⟩] w fun e w' => e = .returned (cutV s.data.toList) ∧ Below w.heap.size w w' := by
  have H := Lib.hid (slCut_any s w hs)
  have HC : Hid (∃ a b c, cutV s.data.toList = .tuple #[.string a, .string b, .bool c]) := by
    unfold cutV; cases Mt.cutE s.data.toList <;> exact Lib.hid ⟨_, _, _, rfl⟩
  obtain ⟨a, b, c, hc⟩ := HC.out
  rw [hc] at H ⊢
  clear HC hc
  go_enter Tryd.func60, Tryd.ntmps60
  go_wp2_with fail
  refine (H.out).mono ?_
  rintro e w' ⟨rfl, hb⟩
  have HB := Lib.hid hb
  clear hb
  go_wp2_with fail
  exact bodyPost_ret (v := .tuple #[.string a, .string b, .bool c]) (by simp [results, Tryd.results60, go_sem]) rfl ⟨rfl, HB.out⟩

theorem slHasPlus_any (s : ByteArray) (w : World) : Calls Tryd.prog 70 #[.string s, .string ⟨#[43]⟩] w fun e w' => e = .returned (.bool (decide (s.data.toList.head? = some 43))) ∧ w = w' := by
  rcases Nat.eq_zero_or_pos s.size with h0 | h0
  · have hs0 : s = ⟨#[]⟩ := by
      apply ByteArray.ext
      exact Array.eq_empty_of_size_eq_zero h0
    subst hs0
    go_enter Tryd.func70, Tryd.ntmps70
    go_wp2
    go_ret
    exact ⟨rfl, rfl⟩
  · have h1 : decide ((1 : Int) ≤ s.size) = true := decide_eq_true (by omega)
    have h1' : (1 : Int) ≤ s.size := by omega
    have h1'' : 1 ≤ s.size := h0
    obtain ⟨b, hb⟩ : ∃ b, ((s.extract 0 1).toList == (⟨#[43]⟩ : ByteArray).toList) = b := ⟨_, rfl⟩
    have hb2 := hb
    simp at hb2
    have HR : Hid (decide (s.data.toList.head? = some 43) = b) := by
      obtain ⟨r, hr, _, _⟩ := Mt.cons_of h0
      rw [← hb, Bool.eq_iff_iff, hr]
      have e : (s.extract 0 1).toList = [s[0]] := by
        rw [ByteArray.toList_eq, Mt.extract_take, Mt.str_data, hr]; rfl
      rw [e]
      have e2 : (⟨#[43]⟩ : ByteArray).toList = [43] := by rw [ByteArray.toList_eq]
      rw [e2]
      exact Lib.hid (by simp)
    go_enter Tryd.func70, Tryd.ntmps70
    go_wp2
    go_ret
    exact ⟨Mt.ret_bool (by rw [HR.out, ← hb]), rfl⟩
theorem hasPlus_any (s : ByteArray) (w : World) : Calls Tryd.prog 59 #[.string s, .string ⟨#[43]⟩] w fun e w' => e = .returned (.bool (decide (s.data.toList.head? = some 43))) ∧ w = w' := by
  have H := Lib.hid (slHasPlus_any s w)
  go_enter Tryd.func59, Tryd.ntmps59
  go_wp2_with fail
  refine (H.out).mono ?_
  rintro e w' ⟨rfl, rfl⟩
  go_wp2_with fail
  go_ret
  exact ⟨rfl, rfl⟩
end Go.Proofs.YtnlbhmjgeedgpaaDoor
