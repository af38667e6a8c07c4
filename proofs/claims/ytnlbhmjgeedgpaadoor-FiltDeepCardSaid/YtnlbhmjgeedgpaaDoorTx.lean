/-
  strings.Clone; plain facts on texts of bytes.
-/
import Derived.Test.YtnlbhmjgeedgpaaDoorClone
import Derived.Test.YtnlbhmjgeedgpaaDoorOnly
import Derived.IntWalk
set_option linter.unusedVariables false
set_option linter.unusedSimpArgs false
namespace Go.Proofs.YtnlbhmjgeedgpaaDoor
open Go.RowKit

theorem clone_any (s : ByteArray) (w : World) (hlim : s.size ≤ 281474976710656) : Calls Tryd.prog 63 #[.string s] w fun e w' => e = .returned (.string s) ∧ Below w.heap.size w w' := by
  have H : Calls Tryd.prog 76 #[.string s] w fun e w' => e = .returned (.string s) ∧ Below w.heap.size w w' := AnyPu.stringslite_Clone Tryd.lays25 s w hlim
  have HC := Lib.hid H
  clear H
  go_enter Tryd.func63, Tryd.ntmps63
  go_wp2_with fail
  refine (HC.out).mono ?_
  rintro e w' ⟨rfl, hb⟩
  have HB := Lib.hid hb
  clear hb
  go_wp2_with fail
  go_ret
  exact ⟨rfl, HB.out⟩

theorem Mt.cons_of {s : ByteArray} (h : 0 < s.size) : ∃ r, s.data.toList = s[0] :: r ∧ r.length = s.size - 1 ∧ s.extract 1 s.size = Mt.str r := by
  have hl : s.data.toList.length = s.size := rfl
  match hs : s.data.toList with
  | [] => rw [hs] at hl; simp at hl; omega
  | c :: r =>
    have h0 : s[0] = c := by
      have : s.data.toList[0]'(by omega) = c := by simp [hs]
      exact this
    refine ⟨r, by rw [h0], by rw [hs] at hl; simp at hl; omega, ?_⟩
    apply ByteArray.ext
    apply Array.ext'
    show (s.extract 1 s.size).data.toList = r
    rw [Mt.extract_list, hs]; rfl
theorem Mt.extract_drop (s : ByteArray) (k : Nat) : s.extract k s.size = Mt.str (s.data.toList.drop k) := by
  apply ByteArray.ext
  apply Array.ext'
  show (s.extract k s.size).data.toList = s.data.toList.drop k
  rw [Mt.extract_list]
theorem Mt.extract_take (s : ByteArray) (k : Nat) : s.extract 0 k = Mt.str (s.data.toList.take k) := by
  apply ByteArray.ext
  rw [ByteArray.data_extract]
  apply Array.ext'
  simp [Mt.str, Array.toList_extract, List.extract]
theorem below_drewN (w : World) (n : Nat) : Below w.heap.size w (w.drewN n) := ⟨rfl, rfl, rfl, Nat.le_refl _, fun _ _ => rfl⟩

theorem nonempty_str {s : ByteArray} (h : 0 < s.size) : s.toList.isEmpty = false := by
  rw [ByteArray.toList_eq s]
  cases hs : s.data.toList with
  | nil => have hl : s.data.toList.length = s.size := rfl; rw [hs] at hl; simp at hl; omega
  | cons a b => rfl
end Go.Proofs.YtnlbhmjgeedgpaaDoor
