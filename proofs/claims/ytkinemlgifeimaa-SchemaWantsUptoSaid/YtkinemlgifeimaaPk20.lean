/-
  Some texts of one proof, one behind the other.
-/
import Derived.Test.YtkinemlgifeimaaPk8
import Derived.Test.YtkinemlgifeimaaPk18
import Derived.Test.YtkinemlgifeimaaPk19
set_option linter.unusedVariables false
set_option linter.unusedSimpArgs false

/-
  What the calls dn.readByte and has come to.
-/
namespace Go.Proofs.Ytkinemlgifeimaa
open Go.RowKit

/-- What readByte answers. -/
def byteV : Option (UInt8 × Nat) → Value
  | none => .tuple #[.int .u8 0, .int .i64 0, .bool false]
  | some (c, n) => .tuple #[.int .u8 c.toNat, .int .i64 n, .bool true]
theorem Mt.spec_index : ∀ n : Fin 256, decide (0 ≤ Lib.indexByte [34, 43, 44, 59, 60, 62, 92, 32, 35, 61] (UInt8.ofNat n)) = Mt.specN n := by decide +kernel
theorem Mt.unhex_two (d e : UInt8) : (Mt.unhex [d, e]) = match Mt.hv d.toNat, Mt.hv e.toNat with | some x, some y => ([UInt8.ofNat (16 * x + y)], true) | _, _ => ([], false) := by
  cases hx : Mt.hv d.toNat with
  | none =>
    rw [Mt.unhex_bad (l := [d, e]) (k := 0) (by simp) (Mt.pv_none1 (by simpa using hx))]
  | some x =>
    cases hy : Mt.hv e.toNat with
    | none => rw [Mt.unhex_bad (l := [d, e]) (k := 0) (by simp) (Mt.pv_none2 (by simpa using hy))]
    | some y =>
      have hp := Mt.pv_some (l := [d, e]) (k := 0) (x := x) (y := y) (by simpa using hx) (by simpa using hy)
      have hu := Mt.uh_some (l := [d, e]) (k := 0) (o := []) rfl hp
      rw [Mt.unhex_good (l := [d, e]) (o := [UInt8.ofNat (16 * x + y)]) (by simp) (by simpa using hu)]

theorem Mt.two_of {s : ByteArray} (h : 1 < s.size) : ∃ r, s.data.toList = s[0] :: s[1] :: r ∧ r.length = s.size - 2 := by
  have hl : s.data.toList.length = s.size := rfl
  match hs : s.data.toList with
  | [] => rw [hs] at hl; simp at hl; omega
  | [c] => rw [hs] at hl; simp at hl; omega
  | c :: d :: r =>
    have h0 : s[0] = c := by
      have : s.data.toList[0]'(by omega) = c := by simp [hs]
      exact this
    have h1 : s[1] = d := by
      have : s.data.toList[1]'(by omega) = d := by simp [hs]
      exact this
    exact ⟨r, by rw [h0, h1], by rw [hs] at hl; simp at hl; omega⟩
theorem Mt.three_of {s : ByteArray} (h : 2 < s.size) : ∃ r, s.data.toList = s[0] :: s[1] :: s[2] :: r ∧ s.extract 1 3 = Mt.str [s[1], s[2]] := by
  have hl : s.data.toList.length = s.size := rfl
  match hs : s.data.toList with
  | [] => rw [hs] at hl; simp at hl; omega
  | [c] => rw [hs] at hl; simp at hl; omega
  | [c, d] => rw [hs] at hl; simp at hl; omega
  | c :: d :: e :: r =>
    have h0 : s[0] = c := by
      have : s.data.toList[0]'(by omega) = c := by simp [hs]
      exact this
    have h1 : s[1] = d := by
      have : s.data.toList[1]'(by omega) = d := by simp [hs]
      exact this
    have h2 : s[2] = e := by
      have : s.data.toList[2]'(by omega) = e := by simp [hs]
      exact this
    refine ⟨r, by rw [h0, h1, h2], ?_⟩
    apply ByteArray.ext
    rw [ByteArray.data_extract]
    apply Array.ext'
    simp [Mt.str, Array.toList_extract, List.extract, hs, h1, h2]

end Go.Proofs.Ytkinemlgifeimaa
