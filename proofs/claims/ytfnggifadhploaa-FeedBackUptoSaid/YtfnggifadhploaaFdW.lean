/-
  Add of a slice that was just made; awake of the statements on feed.
-/
import Derived.Test.YtfnggifadhploaaFdA
namespace Go.Proofs.Ytfnggifadhploaa
open Go.RowKit

/-- What Add leaves. -/
def Added (B g : Nat) (w : World) (l : List UInt8) (x : Ending) (w' : World) : Prop :=
  x = .returned (.tuple #[]) ∧ ∃ g', IsBuf w' B g' l 0 ∧ (g' = g ∨ w.heap.size ≤ g') ∧ OnlyS [B, g] w w'
theorem badd_alloc {w : World} {B g : Nat} {l : List UInt8} (h : IsBuf w B g l 0) (ss : List ByteArray) (hn : ss.length ≤ 1000) (hsz : l.length + (Mt.cats ss).length ≤ 70368744177664) (hg : g ≠ w.heap.size) :
    Calls Try.prog 30 #[.pointer (some ⟨B, 0, none⟩), .slice (some ⟨w.heap.size, 0, none⟩) ss.length ss.length] (w.alloc (.cells (ss.map Value.string).toArray 9)) (Added B g w (l ++ Mt.cats ss)) := by
  have hlt := h.lt
  have hb := (Below.refl w.heap.size w).alloc (Nat.le_refl _) (.cells (ss.map Value.string).toArray 9)
  refine (badd_any (w := w.alloc (.cells (ss.map Value.string).toArray 9)) (h.below hb) w.heap.size 0 ss.length ss (by omega) (fun e => hg e.symm) (fun i hi => ?_) hn hsz).mono ?_
  · rw [cell_of_row _ w.heap.size (0 + i) _ _ _ (heap_alloc_new w _)]
    simp [List.getElem?_eq_getElem hi]
  · rintro x w' ⟨rfl, g', h1, h2, h3⟩
    refine ⟨rfl, g', h1, ?_, ⟨h3.os.trans hb.os, h3.tape.trans hb.tape, h3.output.trans hb.output, Nat.le_trans hb.size h3.size, fun k hk hS => (h3.block k (Nat.lt_of_lt_of_le hk hb.size) hS).trans (hb.block k hk)⟩⟩
    rcases h2 with h2 | h2
    · exact .inl h2
    · exact .inr (Nat.le_trans hb.size h2)

set_option maxRecDepth 100000 in
theorem awake8_any (w : World) : Calls Try.prog 28 #[] w fun e w' => e = .returned (.bool true) ∧ Below w.heap.size w w' := by
  go_enter Try.func28, Try.ntmps28
  go_wp2_with fail
  refine (bnew_any _).mono ?_
  rintro x w1 ⟨rfl, hnil, hb1⟩
  have hz1 : w.heap.size < w1.heap.size := (hnil (w.heap.size + 1) (by omega)).lt
  have HA1 : Hid (Calls Try.prog 30 #[.pointer (some ⟨w.heap.size, 0, none⟩), .slice (some ⟨w1.heap.size, 0, none⟩) 1 1] (w1.alloc (.cells #[.string ⟨#[48]⟩] 9)) (Added w.heap.size (w1.heap.size + 1) w1 [48])) :=
    badd_alloc (hnil (w1.heap.size + 1) (by omega)) [⟨#[48]⟩] (by decide) (by decide) (by omega)
  have HB1 := Lib.hid hb1
  generalize hB : w.heap.size = B at *
  have HBB := Lib.hid hB
  clear hnil hb1 hB
  go_wp2_with fail
  refine (HA1.out).mono ?_
  rintro x w2 ⟨rfl, g2, hb2, hg2, ho2⟩
  have hz2 : w1.heap.size ≤ w2.heap.size := ho2.size
  have hBW2 : Below B w w2 := HB1.out.trans (ho2.toBelow (by simp; omega) (by omega))
  have hgB : B ≤ g2 := by omega
  have hnorm : ∃ g3, IsBuf w2 B g3 [48] 0 ∧ B ≤ g3 ∧ g3 ≠ w2.heap.size := by
    obtain ⟨v, hv, hby, hne⟩ := hb2
    rcases hby with ⟨h, _⟩ | ⟨off, cap, cur, h1, h2, h3⟩
    · cases h
    · have := lt_of_block h2
      exact ⟨g2, ⟨v, hv, .inr ⟨off, cap, cur, h1, h2, h3⟩, hne⟩, hgB, by omega⟩
  obtain ⟨g3, hb3, hg3, hg3n⟩ := hnorm
  have hlt2 := hb3.lt
  have HA2 : Hid (Calls Try.prog 30 #[.pointer (some ⟨B, 0, none⟩), .slice (some ⟨w2.heap.size, 0, none⟩) 2 2] (w2.alloc (.cells #[.string ⟨#[1]⟩, .string ⟨#[5, 48]⟩] 9)) (Added B g3 w2 [48, 1, 5, 48])) :=
    badd_alloc hb3 [⟨#[1]⟩, ⟨#[5, 48]⟩] (by decide) (by decide) hg3n
  have HB2 := Lib.hid hBW2
  clear HA1 HB1 hb2 hg2 ho2 hBW2 hgB hb3 hg3n
  go_wp2_with fail
  refine (HA2.out).mono ?_
  rintro x w3 ⟨rfl, g4, hb4, hg4, ho4⟩
  have hBW3 : Below B w w3 := HB2.out.trans (ho4.toBelow (by simp; omega) (by omega))
  have hz3 : w2.heap.size ≤ w3.heap.size := ho4.size
  have hgB : B ≤ g4 := by omega
  have HN : Hid (Calls Try.prog 33 #[.pointer (some ⟨B, 0, none⟩)] w3 fun x w' => x = .returned (.tuple #[.string ⟨#[48, 1, 5]⟩, .bool true, .int .i64 0]) ∧ IsBuf w' B g4 [48] 0 ∧ OnlyS [B, g4] w3 w') :=
    bnext_msg hb4 (by decide) (by decide) (by decide)
  have HB3 := Lib.hid hBW3
  clear HA2 HB2 hb4 hg4 ho4 hBW3
  go_wp2_with fail
  refine (HN.out).mono ?_
  rintro x w4 ⟨rfl, hb5, ho5⟩
  have HL : Hid (Calls Try.prog 32 #[.pointer (some ⟨B, 0, none⟩)] w4 fun x w' => x = .returned (.int .i64 1) ∧ w4 = w') := blen_any hb5
  have HB4 := Lib.hid (HB3.out.trans (ho5.toBelow (D := B) (by simp; omega) (by omega)))
  clear HN HB3 hb5 ho5
  go_wp2_with fail
  refine (HL.out).mono ?_
  rintro x w5 ⟨rfl, rfl⟩
  go_wp2_with fail
  go_ret
  have HE := HB4.out
  rw [← HBB.out] at HE
  exact ⟨rfl, HE⟩
end Go.Proofs.Ytfnggifadhploaa
