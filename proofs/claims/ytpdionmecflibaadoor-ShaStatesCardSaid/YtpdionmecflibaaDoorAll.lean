/-
  What sha.Sum256 comes to; and a fresh state.
-/
import Derived.Test.YtpdionmecflibaaDoorSum
namespace Go.Proofs.YtpdionmecflibaaDoor
open Go.RowKit

theorem new_st (w : World) : IsSt (w.alloc (.cells Mt.st0 60)) w.heap.size [] :=
  ⟨List.replicate 64 0, ⟨by simp, by rw [heap_alloc_new]; rfl⟩, rfl⟩
theorem IsStrs.below {w u : World} {D : Nat} {a : Option Addr} {n : Nat} {ss : List ByteArray} (h : IsStrs w a n ss) (hb : Below D w u) (hD : w.heap.size ≤ D) : IsStrs u a n ss := by
  obtain ⟨h1, h2, h3⟩ := h
  refine ⟨h1, ?_, h3⟩
  rcases h2 with h2 | ⟨b, off, rfl, hc⟩
  · exact .inl h2
  · refine .inr ⟨b, off, rfl, fun i hi => ?_⟩
    rw [hb.cell (p := ⟨b, off + i, none⟩) (Nat.lt_of_lt_of_le (World.block_lt_of_cell? w _ (hc i hi)) hD)]
    exact hc i hi
theorem IsStrs.only {w u : World} {B : Nat} {a : Option Addr} {n : Nat} {ss : List ByteArray} (h : IsStrs w a n ss) (hb : Only B w u) (hap : Apart B a n) : IsStrs u a n ss := by
  obtain ⟨h1, h2, h3⟩ := h
  refine ⟨h1, ?_, h3⟩
  rcases h2 with h2 | ⟨b, off, rfl, hc⟩
  · exact .inl h2
  · rcases hap with h4 | h4
    · exact .inl h4
    · refine .inr ⟨b, off, rfl, fun i hi => ?_⟩
      rw [hb.cell (p := ⟨b, off + i, none⟩) (World.block_lt_of_cell? w _ (hc i hi)) (show b ≠ B from h4 ⟨b, off, none⟩ rfl)]
      exact hc i hi
theorem IsStrs.apart {w : World} {B : Nat} {a : Option Addr} {n : Nat} {ss : List ByteArray} (h : IsStrs w a n ss) (hB : w.heap.size ≤ B) : Apart B a n := by
  obtain ⟨h1, h2, h3⟩ := h
  rcases h2 with h2 | ⟨b, off, rfl, hc⟩
  · exact .inl h2
  · rcases Nat.eq_zero_or_pos n with h4 | h4
    · exact .inl h4
    · right
      intro p hp
      obtain rfl := Option.some.inj hp
      have := World.block_lt_of_cell? w _ (hc 0 (by omega))
      simp at this ⊢
      omega
theorem Laid.lt {w : World} (h : Laid w) : 0 < w.heap.size ∧ 1 < w.heap.size := by
  have h1 := World.block_lt_of_cell? w _ (h.1 0 (by decide))
  have h2 := World.block_lt_of_cell? w _ (h.2 0 (by decide))
  exact ⟨h1, h2⟩
theorem Laid.toN {w u : World} {B : Nat} (h : Laid w) (hb : Below w.heap.size w u) (hB : w.heap.size ≤ B) : LaidN B u := by
  have h1 := h.lt
  exact ⟨h.below hb (Nat.le_refl _), by have := h1.1; omega, by have := h1.2; omega⟩

set_option maxRecDepth 100000 in
theorem all_any (a : Option Addr) (n cap : Nat) (ss : List ByteArray) (w : World) (hg : Laid w) (hs : IsStrs w a n ss) (hM : (Mt.cat ss).length ≤ 1099511627776) (hn : n ≤ 9223372036854775807) :
    Calls Tryd.prog 9 #[.slice a n cap] w fun e w' => e = .returned (.string (Mt.str (Mt.sha (Mt.cat ss)))) ∧ Below w.heap.size w w' := by
  have hb0 : Below w.heap.size w (w.alloc (.cells Mt.st0 60)) := (Below.refl _ _).alloc (Nat.le_refl _) _
  have HW := Lib.hid (writes_any w.heap.size [] a n cap ss (w.alloc (.cells Mt.st0 60)) (new_st w) (hg.toN hb0 (Nat.le_refl _)) (hs.below hb0 (Nat.le_refl _)) (hs.apart (Nat.le_refl _)) (by simpa using hM) hn)
  have HN := Lib.hid (new_any w hg)
  have HG := Lib.hid hg
  have HM := Lib.hid hM
  have HB0 := Lib.hid hb0
  clear hg hs hM hb0
  go_enter Tryd.func9, Tryd.ntmps9
  go_wp2_with fail
  refine (HN.out).mono ?_
  rintro e w1 ⟨rfl, rfl⟩
  go_wp2_with fail
  refine (HW.out).mono ?_
  rintro e w2 ⟨rfl, hs2, hb2⟩
  have hbw := HB0.out.trans (hb2.toBelow (Nat.le_refl _) (by simp))
  have HS := Lib.hid (sum_any w.heap.size _ w2 hs2 (HG.out.below hbw (Nat.le_refl _)) (by simpa using HM.out))
  have HBW := Lib.hid hbw
  clear hs2 hb2 hbw
  go_wp2_with fail
  refine (HS.out).mono ?_
  rintro e w3 ⟨rfl, hb3⟩
  have HB3 := Lib.hid (HBW.out.trans (hb3.mono HBW.out.size))
  clear hb3
  go_wp2_with fail
  go_ret
  exact ⟨rfl, HB3.out⟩

/-- Parts that were just laid. -/
theorem strs_one (s : ByteArray) (w : World) (hs : s.size ≤ maxLen) : IsStrs (w.alloc (.cells #[.string s] 9)) (some ⟨w.heap.size, 0, none⟩) 1 [s] :=
  ⟨rfl, .inr ⟨w.heap.size, 0, rfl, fun i hi => by
    obtain rfl : i = 0 := by simpa using hi
    rw [cell_of_row _ _ _ _ _ _ (heap_alloc_new w _)]; rfl⟩, by simpa using hs⟩
theorem strs_two (s t : ByteArray) (w : World) (hs : s.size ≤ maxLen) (ht : t.size ≤ maxLen) : IsStrs (w.alloc (.cells #[.string s, .string t] 9)) (some ⟨w.heap.size, 0, none⟩) 2 [s, t] :=
  ⟨rfl, .inr ⟨w.heap.size, 0, rfl, fun i hi => by
    have hi2 : i < 2 := hi
    rw [cell_of_row _ _ _ _ _ _ (heap_alloc_new w _)]
    match i, hi2 with
    | 0, _ => rfl
    | 1, _ => rfl⟩, by simp; exact ⟨hs, ht⟩⟩
theorem strs_three (s t u : ByteArray) (w : World) (hs : s.size ≤ maxLen) (ht : t.size ≤ maxLen) (hu : u.size ≤ maxLen) : IsStrs (w.alloc (.cells #[.string s, .string t, .string u] 9)) (some ⟨w.heap.size, 0, none⟩) 3 [s, t, u] :=
  ⟨rfl, .inr ⟨w.heap.size, 0, rfl, fun i hi => by
    have hi2 : i < 3 := hi
    rw [cell_of_row _ _ _ _ _ _ (heap_alloc_new w _)]
    match i, hi2 with
    | 0, _ => rfl
    | 1, _ => rfl
    | 2, _ => rfl⟩, by simp; exact ⟨hs, ht, hu⟩⟩
theorem strs_nil (w : World) : IsStrs w none 0 [] := ⟨rfl, .inl rfl, by simp⟩

end Go.Proofs.YtpdionmecflibaaDoor
