/-
  The document's reader: a place in bytes. What fail comes to.
-/
import Derived.Test.YtcijjblcoelabaaTvTa
set_option linter.unusedVariables false
set_option linter.unusedSimpArgs false
namespace Go.Proofs.Ytcijjblcoelabaa
open Go.RowKit

/-- A reader: its bytes, its place, its first fault. -/
def IsRd (w : World) (R : Nat) (s : ByteArray) (p bad : Nat) : Prop := w.heap[R]? = some (.cells #[.string s, .int .i64 p, .int .i64 bad] 135 (0, 0))

set_option maxRecDepth 100000 in
/-- The first fault: none was there before. -/
theorem rfail_any {w : World} {R : Nat} {s : ByteArray} {p : Nat} (h : IsRd w R s p 0) (e : Nat) :
    Calls Try.prog 94 #[.pointer (some ⟨R, 0, none⟩), .int .i64 e] w fun x w' => x = .returned (.agg #[.int .i64 0, .string ByteArray.empty, .slice none 0 0]) ∧ IsRd w' R s p e ∧ OnlyS [R] w w' := by
  have hlt := lt_of_block h
  have hb0 := (Below.refl w.heap.size w).alloc (Nat.le_refl _) (.cells #[.int .i64 0, .string ⟨#[]⟩, .slice none 0 0] 76)
  have hr0 := (hb0.block R hlt).trans h
  have hz : (((0 : Nat) : Int)) = 0 := rfl
  rw [hz] at hr0
  obtain ⟨c0, c1, c2, f0, f1, f2⟩ := box_of hr0
  obtain ⟨b0, b1, b2, g0, g1, g2⟩ := box_of (heap_alloc_new w (.cells #[.int .i64 0, .string ⟨#[]⟩, .slice none 0 0] 76))
  have HR := Lib.hid hr0
  have H0 := Lib.hid h
  have HNE : Hid (R ≠ w.heap.size) := by show R ≠ _; omega
  clear hb0 hr0 h
  go_enter Try.func94, Try.ntmps94
  go_wp2_with fail
  refine bodyPost_ret (v := .agg #[.int .i64 0, .string ⟨#[]⟩, .slice none 0 0]) (by
    have hx := heap_alloc_new (w.setCell ⟨R, 2, none⟩ (.int .i64 e)) (.cells #[.int .i64 0, .string ⟨#[]⟩, .slice none 0 0] 76)
    obtain ⟨k0, k1, k2, _, _, _⟩ := box_of hx
    simp [results, Try.results94, go_sem]) rfl ⟨rfl, ?_, ?_⟩
  · unfold IsRd
    have hs : ((w.setCell ⟨R, 2, none⟩ (.int .i64 e)).alloc (.cells #[.int .i64 0, .string ⟨#[]⟩, .slice none 0 0] 76)).heap[R]? = (w.setCell ⟨R, 2, none⟩ (.int .i64 e)).heap[R]? :=
      ((Below.refl _ _).alloc (Nat.le_refl _) _).block R (by simpa using hlt)
    rw [hs, heap_setCell_same _ _ _ _ _ _ H0.out]; rfl
  · exact ((OnlyS.refl _ _).setCell (by simp) _).alloc _
end Go.Proofs.Ytcijjblcoelabaa
