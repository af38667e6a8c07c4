/-
  Some texts of one proof, one behind the other.
-/
import Derived.Test.YtkinemlgifeimaaPk14
set_option linter.unusedVariables false
set_option linter.unusedSimpArgs false

/-
  The classes of the chapter, as they are laid.
-/
namespace Go.Proofs.Ytkinemlgifeimaa
open Go.RowKit

set_option maxRecDepth 100000 in
set_option maxHeartbeats 4000000 in
theorem coreClasses_any (w : World) : Calls Try.prog 45 #[] w fun e w' => ∃ g, e = .returned (.slice (some ⟨g, 0, none⟩) 9 9) ∧ Hid (∀ u, Above w w' u → IsCls u (.slice (some ⟨g, 0, none⟩) 9 9) Mt.coreC) ∧ Below w.heap.size w w' := by
  obtain ⟨w1, hw1⟩ : ∃ u, w.alloc (.cells #[.string ⟨#[111, 98, 106, 101, 99, 116, 67, 108, 97, 115, 115]⟩] 9) = u := ⟨_, rfl⟩
  have hs1 : w1.heap.size = w.heap.size + 1 := by rw [← hw1]; simp
  have hb1 : Below w.heap.size w w1 := by rw [← hw1]; exact (Below.refl _ w).alloc (Nat.le_refl _) _
  have hr1 : w1.heap[w.heap.size]? = some (.cells #[.string ⟨#[111, 98, 106, 101, 99, 116, 67, 108, 97, 115, 115]⟩] 9) := by
    have h := heap_alloc_new w (.cells #[.string ⟨#[111, 98, 106, 101, 99, 116, 67, 108, 97, 115, 115]⟩] 9)
    rw [hw1] at h; exact h
  obtain ⟨w2, hw2⟩ : ∃ u, w1.alloc (.cells #[.string ⟨#[99, 114, 101, 97, 116, 101, 100, 65, 116]⟩, .string ⟨#[99, 104, 97, 110, 103, 101, 100, 65, 116]⟩, .string ⟨#[112, 119, 100, 70, 97, 105, 108, 117, 114, 101]⟩, .string ⟨#[112, 119, 100, 76, 111, 99, 107, 101, 100]⟩, .string ⟨#[112, 119, 100, 67, 104, 97, 110, 103, 101, 100]⟩] 9) = u := ⟨_, rfl⟩
  have hs2 : w2.heap.size = w.heap.size + 2 := by rw [← hw2]; simp [hs1]
  have hb2 : Below w1.heap.size w1 w2 := by rw [← hw2]; exact (Below.refl _ w1).alloc (Nat.le_refl _) _
  have hr2 : w2.heap[w.heap.size + 1]? = some (.cells #[.string ⟨#[99, 114, 101, 97, 116, 101, 100, 65, 116]⟩, .string ⟨#[99, 104, 97, 110, 103, 101, 100, 65, 116]⟩, .string ⟨#[112, 119, 100, 70, 97, 105, 108, 117, 114, 101]⟩, .string ⟨#[112, 119, 100, 76, 111, 99, 107, 101, 100]⟩, .string ⟨#[112, 119, 100, 67, 104, 97, 110, 103, 101, 100]⟩] 9) := by
    have h := heap_alloc_new w1 (.cells #[.string ⟨#[99, 114, 101, 97, 116, 101, 100, 65, 116]⟩, .string ⟨#[99, 104, 97, 110, 103, 101, 100, 65, 116]⟩, .string ⟨#[112, 119, 100, 70, 97, 105, 108, 117, 114, 101]⟩, .string ⟨#[112, 119, 100, 76, 111, 99, 107, 101, 100]⟩, .string ⟨#[112, 119, 100, 67, 104, 97, 110, 103, 101, 100]⟩] 9)
    rw [hw2, hs1] at h; exact h
  obtain ⟨w3, hw3⟩ : ∃ u, w2.alloc (.cells #[.string ⟨#[100, 99]⟩] 9) = u := ⟨_, rfl⟩
  have hs3 : w3.heap.size = w.heap.size + 3 := by rw [← hw3]; simp [hs2]
  have hb3 : Below w2.heap.size w2 w3 := by rw [← hw3]; exact (Below.refl _ w2).alloc (Nat.le_refl _) _
  have hr3 : w3.heap[w.heap.size + 2]? = some (.cells #[.string ⟨#[100, 99]⟩] 9) := by
    have h := heap_alloc_new w2 (.cells #[.string ⟨#[100, 99]⟩] 9)
    rw [hw3, hs2] at h; exact h
  obtain ⟨w4, hw4⟩ : ∃ u, w3.alloc (.cells #[.string ⟨#[100, 101, 115, 99, 114, 105, 112, 116, 105, 111, 110]⟩] 9) = u := ⟨_, rfl⟩
  have hs4 : w4.heap.size = w.heap.size + 4 := by rw [← hw4]; simp [hs3]
  have hb4 : Below w3.heap.size w3 w4 := by rw [← hw4]; exact (Below.refl _ w3).alloc (Nat.le_refl _) _
  have hr4 : w4.heap[w.heap.size + 3]? = some (.cells #[.string ⟨#[100, 101, 115, 99, 114, 105, 112, 116, 105, 111, 110]⟩] 9) := by
    have h := heap_alloc_new w3 (.cells #[.string ⟨#[100, 101, 115, 99, 114, 105, 112, 116, 105, 111, 110]⟩] 9)
    rw [hw4, hs3] at h; exact h
  obtain ⟨w5, hw5⟩ : ∃ u, w4.alloc (.cells #[.string ⟨#[111]⟩] 9) = u := ⟨_, rfl⟩
  have hs5 : w5.heap.size = w.heap.size + 5 := by rw [← hw5]; simp [hs4]
  have hb5 : Below w4.heap.size w4 w5 := by rw [← hw5]; exact (Below.refl _ w4).alloc (Nat.le_refl _) _
  have hr5 : w5.heap[w.heap.size + 4]? = some (.cells #[.string ⟨#[111]⟩] 9) := by
    have h := heap_alloc_new w4 (.cells #[.string ⟨#[111]⟩] 9)
    rw [hw5, hs4] at h; exact h
  obtain ⟨w6, hw6⟩ : ∃ u, w5.alloc (.cells #[.string ⟨#[100, 101, 115, 99, 114, 105, 112, 116, 105, 111, 110]⟩] 9) = u := ⟨_, rfl⟩
  have hs6 : w6.heap.size = w.heap.size + 6 := by rw [← hw6]; simp [hs5]
  have hb6 : Below w5.heap.size w5 w6 := by rw [← hw6]; exact (Below.refl _ w5).alloc (Nat.le_refl _) _
  have hr6 : w6.heap[w.heap.size + 5]? = some (.cells #[.string ⟨#[100, 101, 115, 99, 114, 105, 112, 116, 105, 111, 110]⟩] 9) := by
    have h := heap_alloc_new w5 (.cells #[.string ⟨#[100, 101, 115, 99, 114, 105, 112, 116, 105, 111, 110]⟩] 9)
    rw [hw6, hs5] at h; exact h
  obtain ⟨w7, hw7⟩ : ∃ u, w6.alloc (.cells #[.string ⟨#[111, 117]⟩] 9) = u := ⟨_, rfl⟩
  have hs7 : w7.heap.size = w.heap.size + 7 := by rw [← hw7]; simp [hs6]
  have hb7 : Below w6.heap.size w6 w7 := by rw [← hw7]; exact (Below.refl _ w6).alloc (Nat.le_refl _) _
  have hr7 : w7.heap[w.heap.size + 6]? = some (.cells #[.string ⟨#[111, 117]⟩] 9) := by
    have h := heap_alloc_new w6 (.cells #[.string ⟨#[111, 117]⟩] 9)
    rw [hw7, hs6] at h; exact h
  obtain ⟨w8, hw8⟩ : ∃ u, w7.alloc (.cells #[.string ⟨#[100, 101, 115, 99, 114, 105, 112, 116, 105, 111, 110]⟩] 9) = u := ⟨_, rfl⟩
  have hs8 : w8.heap.size = w.heap.size + 8 := by rw [← hw8]; simp [hs7]
  have hb8 : Below w7.heap.size w7 w8 := by rw [← hw8]; exact (Below.refl _ w7).alloc (Nat.le_refl _) _
  have hr8 : w8.heap[w.heap.size + 7]? = some (.cells #[.string ⟨#[100, 101, 115, 99, 114, 105, 112, 116, 105, 111, 110]⟩] 9) := by
    have h := heap_alloc_new w7 (.cells #[.string ⟨#[100, 101, 115, 99, 114, 105, 112, 116, 105, 111, 110]⟩] 9)
    rw [hw8, hs7] at h; exact h
  obtain ⟨w9, hw9⟩ : ∃ u, w8.alloc (.cells #[.string ⟨#[99, 110]⟩, .string ⟨#[115, 110]⟩] 9) = u := ⟨_, rfl⟩
  have hs9 : w9.heap.size = w.heap.size + 9 := by rw [← hw9]; simp [hs8]
  have hb9 : Below w8.heap.size w8 w9 := by rw [← hw9]; exact (Below.refl _ w8).alloc (Nat.le_refl _) _
  have hr9 : w9.heap[w.heap.size + 8]? = some (.cells #[.string ⟨#[99, 110]⟩, .string ⟨#[115, 110]⟩] 9) := by
    have h := heap_alloc_new w8 (.cells #[.string ⟨#[99, 110]⟩, .string ⟨#[115, 110]⟩] 9)
    rw [hw9, hs8] at h; exact h
  obtain ⟨w10, hw10⟩ : ∃ u, w9.alloc (.cells #[.string ⟨#[100, 101, 115, 99, 114, 105, 112, 116, 105, 111, 110]⟩, .string ⟨#[117, 115, 101, 114, 80, 97, 115, 115, 119, 111, 114, 100]⟩] 9) = u := ⟨_, rfl⟩
  have hs10 : w10.heap.size = w.heap.size + 10 := by rw [← hw10]; simp [hs9]
  have hb10 : Below w9.heap.size w9 w10 := by rw [← hw10]; exact (Below.refl _ w9).alloc (Nat.le_refl _) _
  have hr10 : w10.heap[w.heap.size + 9]? = some (.cells #[.string ⟨#[100, 101, 115, 99, 114, 105, 112, 116, 105, 111, 110]⟩, .string ⟨#[117, 115, 101, 114, 80, 97, 115, 115, 119, 111, 114, 100]⟩] 9) := by
    have h := heap_alloc_new w9 (.cells #[.string ⟨#[100, 101, 115, 99, 114, 105, 112, 116, 105, 111, 110]⟩, .string ⟨#[117, 115, 101, 114, 80, 97, 115, 115, 119, 111, 114, 100]⟩] 9)
    rw [hw10, hs9] at h; exact h
  obtain ⟨w11, hw11⟩ : ∃ u, w10.alloc (.cells #[.string ⟨#[117, 105, 100]⟩, .string ⟨#[109, 97, 105, 108]⟩, .string ⟨#[101, 109, 112, 108, 111, 121, 101, 101, 78, 117, 109, 98, 101, 114]⟩, .string ⟨#[97, 99, 116, 105, 118, 101]⟩] 9) = u := ⟨_, rfl⟩
  have hs11 : w11.heap.size = w.heap.size + 11 := by rw [← hw11]; simp [hs10]
  have hb11 : Below w10.heap.size w10 w11 := by rw [← hw11]; exact (Below.refl _ w10).alloc (Nat.le_refl _) _
  have hr11 : w11.heap[w.heap.size + 10]? = some (.cells #[.string ⟨#[117, 105, 100]⟩, .string ⟨#[109, 97, 105, 108]⟩, .string ⟨#[101, 109, 112, 108, 111, 121, 101, 101, 78, 117, 109, 98, 101, 114]⟩, .string ⟨#[97, 99, 116, 105, 118, 101]⟩] 9) := by
    have h := heap_alloc_new w10 (.cells #[.string ⟨#[117, 105, 100]⟩, .string ⟨#[109, 97, 105, 108]⟩, .string ⟨#[101, 109, 112, 108, 111, 121, 101, 101, 78, 117, 109, 98, 101, 114]⟩, .string ⟨#[97, 99, 116, 105, 118, 101]⟩] 9)
    rw [hw11, hs10] at h; exact h
  obtain ⟨w12, hw12⟩ : ∃ u, w11.alloc (.cells #[.string ⟨#[99, 110]⟩, .string ⟨#[109, 101, 109, 98, 101, 114]⟩] 9) = u := ⟨_, rfl⟩
  have hs12 : w12.heap.size = w.heap.size + 12 := by rw [← hw12]; simp [hs11]
  have hb12 : Below w11.heap.size w11 w12 := by rw [← hw12]; exact (Below.refl _ w11).alloc (Nat.le_refl _) _
  have hr12 : w12.heap[w.heap.size + 11]? = some (.cells #[.string ⟨#[99, 110]⟩, .string ⟨#[109, 101, 109, 98, 101, 114]⟩] 9) := by
    have h := heap_alloc_new w11 (.cells #[.string ⟨#[99, 110]⟩, .string ⟨#[109, 101, 109, 98, 101, 114]⟩] 9)
    rw [hw12, hs11] at h; exact h
  obtain ⟨w13, hw13⟩ : ∃ u, w12.alloc (.cells #[.string ⟨#[100, 101, 115, 99, 114, 105, 112, 116, 105, 111, 110]⟩] 9) = u := ⟨_, rfl⟩
  have hs13 : w13.heap.size = w.heap.size + 13 := by rw [← hw13]; simp [hs12]
  have hb13 : Below w12.heap.size w12 w13 := by rw [← hw13]; exact (Below.refl _ w12).alloc (Nat.le_refl _) _
  have hr13 : w13.heap[w.heap.size + 12]? = some (.cells #[.string ⟨#[100, 101, 115, 99, 114, 105, 112, 116, 105, 111, 110]⟩] 9) := by
    have h := heap_alloc_new w12 (.cells #[.string ⟨#[100, 101, 115, 99, 114, 105, 112, 116, 105, 111, 110]⟩] 9)
    rw [hw13, hs12] at h; exact h
  obtain ⟨w14, hw14⟩ : ∃ u, w13.alloc (.cells #[.string ⟨#[117, 115, 101, 114, 80, 97, 115, 115, 119, 111, 114, 100]⟩] 9) = u := ⟨_, rfl⟩
  have hs14 : w14.heap.size = w.heap.size + 14 := by rw [← hw14]; simp [hs13]
  have hb14 : Below w13.heap.size w13 w14 := by rw [← hw14]; exact (Below.refl _ w13).alloc (Nat.le_refl _) _
  have hr14 : w14.heap[w.heap.size + 13]? = some (.cells #[.string ⟨#[117, 115, 101, 114, 80, 97, 115, 115, 119, 111, 114, 100]⟩] 9) := by
    have h := heap_alloc_new w13 (.cells #[.string ⟨#[117, 115, 101, 114, 80, 97, 115, 115, 119, 111, 114, 100]⟩] 9)
    rw [hw14, hs13] at h; exact h
  obtain ⟨w15, hw15⟩ : ∃ u, w14.alloc (.cells #[.string ⟨#[117, 105, 100]⟩, .string ⟨#[109, 97, 105, 108]⟩] 9) = u := ⟨_, rfl⟩
  have hs15 : w15.heap.size = w.heap.size + 15 := by rw [← hw15]; simp [hs14]
  have hb15 : Below w14.heap.size w14 w15 := by rw [← hw15]; exact (Below.refl _ w14).alloc (Nat.le_refl _) _
  have hr15 : w15.heap[w.heap.size + 14]? = some (.cells #[.string ⟨#[117, 105, 100]⟩, .string ⟨#[109, 97, 105, 108]⟩] 9) := by
    have h := heap_alloc_new w14 (.cells #[.string ⟨#[117, 105, 100]⟩, .string ⟨#[109, 97, 105, 108]⟩] 9)
    rw [hw15, hs14] at h; exact h
  obtain ⟨w16, hw16⟩ : ∃ u, w15.alloc (.cells #[.string ⟨#[116, 111, 112]⟩, .string ⟨#[]⟩, .int .i64 0, .slice (some ⟨w.heap.size, 0, none⟩) 1 1, .slice (some ⟨w.heap.size + 1, 0, none⟩) 5 5, .string ⟨#[100, 111, 109, 97, 105, 110]⟩, .string ⟨#[116, 111, 112]⟩, .int .i64 1, .slice (some ⟨w.heap.size + 2, 0, none⟩) 1 1, .slice (some ⟨w.heap.size + 3, 0, none⟩) 1 1, .string ⟨#[111, 114, 103, 97, 110, 105, 122, 97, 116, 105, 111, 110]⟩, .string ⟨#[116, 111, 112]⟩, .int .i64 1, .slice (some ⟨w.heap.size + 4, 0, none⟩) 1 1, .slice (some ⟨w.heap.size + 5, 0, none⟩) 1 1, .string ⟨#[111, 114, 103, 97, 110, 105, 122, 97, 116, 105, 111, 110, 97, 108, 85, 110, 105, 116]⟩, .string ⟨#[116, 111, 112]⟩, .int .i64 1, .slice (some ⟨w.heap.size + 6, 0, none⟩) 1 1, .slice (some ⟨w.heap.size + 7, 0, none⟩) 1 1, .string ⟨#[112, 101, 114, 115, 111, 110]⟩, .string ⟨#[116, 111, 112]⟩, .int .i64 1, .slice (some ⟨w.heap.size + 8, 0, none⟩) 2 2, .slice (some ⟨w.heap.size + 9, 0, none⟩) 2 2, .string ⟨#[105, 110, 101, 116, 80, 101, 114, 115, 111, 110]⟩, .string ⟨#[112, 101, 114, 115, 111, 110]⟩, .int .i64 1, .slice none 0 0, .slice (some ⟨w.heap.size + 10, 0, none⟩) 4 4, .string ⟨#[103, 114, 111, 117, 112]⟩, .string ⟨#[116, 111, 112]⟩, .int .i64 1, .slice (some ⟨w.heap.size + 11, 0, none⟩) 2 2, .slice (some ⟨w.heap.size + 12, 0, none⟩) 1 1, .string ⟨#[115, 101, 99, 117, 114, 101, 100]⟩, .string ⟨#[116, 111, 112]⟩, .int .i64 2, .slice (some ⟨w.heap.size + 13, 0, none⟩) 1 1, .slice none 0 0, .string ⟨#[108, 97, 98, 101, 108, 108, 101, 100]⟩, .string ⟨#[116, 111, 112]⟩, .int .i64 2, .slice none 0 0, .slice (some ⟨w.heap.size + 14, 0, none⟩) 2 2] 31) = u := ⟨_, rfl⟩
  have hb16 : Below w15.heap.size w15 w16 := by rw [← hw16]; exact (Below.refl _ w15).alloc (Nat.le_refl _) _
  have hr16 : w16.heap[w.heap.size + 15]? = some (.cells #[.string ⟨#[116, 111, 112]⟩, .string ⟨#[]⟩, .int .i64 0, .slice (some ⟨w.heap.size, 0, none⟩) 1 1, .slice (some ⟨w.heap.size + 1, 0, none⟩) 5 5, .string ⟨#[100, 111, 109, 97, 105, 110]⟩, .string ⟨#[116, 111, 112]⟩, .int .i64 1, .slice (some ⟨w.heap.size + 2, 0, none⟩) 1 1, .slice (some ⟨w.heap.size + 3, 0, none⟩) 1 1, .string ⟨#[111, 114, 103, 97, 110, 105, 122, 97, 116, 105, 111, 110]⟩, .string ⟨#[116, 111, 112]⟩, .int .i64 1, .slice (some ⟨w.heap.size + 4, 0, none⟩) 1 1, .slice (some ⟨w.heap.size + 5, 0, none⟩) 1 1, .string ⟨#[111, 114, 103, 97, 110, 105, 122, 97, 116, 105, 111, 110, 97, 108, 85, 110, 105, 116]⟩, .string ⟨#[116, 111, 112]⟩, .int .i64 1, .slice (some ⟨w.heap.size + 6, 0, none⟩) 1 1, .slice (some ⟨w.heap.size + 7, 0, none⟩) 1 1, .string ⟨#[112, 101, 114, 115, 111, 110]⟩, .string ⟨#[116, 111, 112]⟩, .int .i64 1, .slice (some ⟨w.heap.size + 8, 0, none⟩) 2 2, .slice (some ⟨w.heap.size + 9, 0, none⟩) 2 2, .string ⟨#[105, 110, 101, 116, 80, 101, 114, 115, 111, 110]⟩, .string ⟨#[112, 101, 114, 115, 111, 110]⟩, .int .i64 1, .slice none 0 0, .slice (some ⟨w.heap.size + 10, 0, none⟩) 4 4, .string ⟨#[103, 114, 111, 117, 112]⟩, .string ⟨#[116, 111, 112]⟩, .int .i64 1, .slice (some ⟨w.heap.size + 11, 0, none⟩) 2 2, .slice (some ⟨w.heap.size + 12, 0, none⟩) 1 1, .string ⟨#[115, 101, 99, 117, 114, 101, 100]⟩, .string ⟨#[116, 111, 112]⟩, .int .i64 2, .slice (some ⟨w.heap.size + 13, 0, none⟩) 1 1, .slice none 0 0, .string ⟨#[108, 97, 98, 101, 108, 108, 101, 100]⟩, .string ⟨#[116, 111, 112]⟩, .int .i64 2, .slice none 0 0, .slice (some ⟨w.heap.size + 14, 0, none⟩) 2 2] 31) := by
    have h := heap_alloc_new w15 (.cells #[.string ⟨#[116, 111, 112]⟩, .string ⟨#[]⟩, .int .i64 0, .slice (some ⟨w.heap.size, 0, none⟩) 1 1, .slice (some ⟨w.heap.size + 1, 0, none⟩) 5 5, .string ⟨#[100, 111, 109, 97, 105, 110]⟩, .string ⟨#[116, 111, 112]⟩, .int .i64 1, .slice (some ⟨w.heap.size + 2, 0, none⟩) 1 1, .slice (some ⟨w.heap.size + 3, 0, none⟩) 1 1, .string ⟨#[111, 114, 103, 97, 110, 105, 122, 97, 116, 105, 111, 110]⟩, .string ⟨#[116, 111, 112]⟩, .int .i64 1, .slice (some ⟨w.heap.size + 4, 0, none⟩) 1 1, .slice (some ⟨w.heap.size + 5, 0, none⟩) 1 1, .string ⟨#[111, 114, 103, 97, 110, 105, 122, 97, 116, 105, 111, 110, 97, 108, 85, 110, 105, 116]⟩, .string ⟨#[116, 111, 112]⟩, .int .i64 1, .slice (some ⟨w.heap.size + 6, 0, none⟩) 1 1, .slice (some ⟨w.heap.size + 7, 0, none⟩) 1 1, .string ⟨#[112, 101, 114, 115, 111, 110]⟩, .string ⟨#[116, 111, 112]⟩, .int .i64 1, .slice (some ⟨w.heap.size + 8, 0, none⟩) 2 2, .slice (some ⟨w.heap.size + 9, 0, none⟩) 2 2, .string ⟨#[105, 110, 101, 116, 80, 101, 114, 115, 111, 110]⟩, .string ⟨#[112, 101, 114, 115, 111, 110]⟩, .int .i64 1, .slice none 0 0, .slice (some ⟨w.heap.size + 10, 0, none⟩) 4 4, .string ⟨#[103, 114, 111, 117, 112]⟩, .string ⟨#[116, 111, 112]⟩, .int .i64 1, .slice (some ⟨w.heap.size + 11, 0, none⟩) 2 2, .slice (some ⟨w.heap.size + 12, 0, none⟩) 1 1, .string ⟨#[115, 101, 99, 117, 114, 101, 100]⟩, .string ⟨#[116, 111, 112]⟩, .int .i64 2, .slice (some ⟨w.heap.size + 13, 0, none⟩) 1 1, .slice none 0 0, .string ⟨#[108, 97, 98, 101, 108, 108, 101, 100]⟩, .string ⟨#[116, 111, 112]⟩, .int .i64 2, .slice none 0 0, .slice (some ⟨w.heap.size + 14, 0, none⟩) 2 2] 31)
    rw [hw16, hs15] at h; exact h
  have k15 := hb16
  have k14 : Below w14.heap.size w14 w16 := hb15.trans (k15.mono (by omega))
  have k13 : Below w13.heap.size w13 w16 := hb14.trans (k14.mono (by omega))
  have k12 : Below w12.heap.size w12 w16 := hb13.trans (k13.mono (by omega))
  have k11 : Below w11.heap.size w11 w16 := hb12.trans (k12.mono (by omega))
  have k10 : Below w10.heap.size w10 w16 := hb11.trans (k11.mono (by omega))
  have k9 : Below w9.heap.size w9 w16 := hb10.trans (k10.mono (by omega))
  have k8 : Below w8.heap.size w8 w16 := hb9.trans (k9.mono (by omega))
  have k7 : Below w7.heap.size w7 w16 := hb8.trans (k8.mono (by omega))
  have k6 : Below w6.heap.size w6 w16 := hb7.trans (k7.mono (by omega))
  have k5 : Below w5.heap.size w5 w16 := hb6.trans (k6.mono (by omega))
  have k4 : Below w4.heap.size w4 w16 := hb5.trans (k5.mono (by omega))
  have k3 : Below w3.heap.size w3 w16 := hb4.trans (k4.mono (by omega))
  have k2 : Below w2.heap.size w2 w16 := hb3.trans (k3.mono (by omega))
  have k1 : Below w1.heap.size w1 w16 := hb2.trans (k2.mono (by omega))
  have k0 : Below w.heap.size w w16 := hb1.trans (k1.mono (by omega))
  have q1 := (k1.block (w.heap.size) (by omega)).trans hr1
  have q2 := (k2.block (w.heap.size + 1) (by omega)).trans hr2
  have q3 := (k3.block (w.heap.size + 2) (by omega)).trans hr3
  have q4 := (k4.block (w.heap.size + 3) (by omega)).trans hr4
  have q5 := (k5.block (w.heap.size + 4) (by omega)).trans hr5
  have q6 := (k6.block (w.heap.size + 5) (by omega)).trans hr6
  have q7 := (k7.block (w.heap.size + 6) (by omega)).trans hr7
  have q8 := (k8.block (w.heap.size + 7) (by omega)).trans hr8
  have q9 := (k9.block (w.heap.size + 8) (by omega)).trans hr9
  have q10 := (k10.block (w.heap.size + 9) (by omega)).trans hr10
  have q11 := (k11.block (w.heap.size + 10) (by omega)).trans hr11
  have q12 := (k12.block (w.heap.size + 11) (by omega)).trans hr12
  have q13 := (k13.block (w.heap.size + 12) (by omega)).trans hr13
  have q14 := (k14.block (w.heap.size + 13) (by omega)).trans hr14
  have q15 := (k15.block (w.heap.size + 14) (by omega)).trans hr15
  have hsF : w.heap.size + 15 < w16.heap.size := lt_of_block hr16
  have HR : Hid (∀ u, Above w w16 u → IsCls u (.slice (some ⟨w.heap.size + 15, 0, none⟩) 9 9) Mt.coreC) := Lib.hid (fun u hu => by
    refine cls_of_row (l := [(⟨[116, 111, 112], [], 0, [[111, 98, 106, 101, 99, 116, 67, 108, 97, 115, 115]], [[99, 114, 101, 97, 116, 101, 100, 65, 116], [99, 104, 97, 110, 103, 101, 100, 65, 116], [112, 119, 100, 70, 97, 105, 108, 117, 114, 101], [112, 119, 100, 76, 111, 99, 107, 101, 100], [112, 119, 100, 67, 104, 97, 110, 103, 101, 100]]⟩, .slice (some ⟨w.heap.size, 0, none⟩) 1 1, .slice (some ⟨w.heap.size + 1, 0, none⟩) 5 5), (⟨[100, 111, 109, 97, 105, 110], [116, 111, 112], 1, [[100, 99]], [[100, 101, 115, 99, 114, 105, 112, 116, 105, 111, 110]]⟩, .slice (some ⟨w.heap.size + 2, 0, none⟩) 1 1, .slice (some ⟨w.heap.size + 3, 0, none⟩) 1 1), (⟨[111, 114, 103, 97, 110, 105, 122, 97, 116, 105, 111, 110], [116, 111, 112], 1, [[111]], [[100, 101, 115, 99, 114, 105, 112, 116, 105, 111, 110]]⟩, .slice (some ⟨w.heap.size + 4, 0, none⟩) 1 1, .slice (some ⟨w.heap.size + 5, 0, none⟩) 1 1), (⟨[111, 114, 103, 97, 110, 105, 122, 97, 116, 105, 111, 110, 97, 108, 85, 110, 105, 116], [116, 111, 112], 1, [[111, 117]], [[100, 101, 115, 99, 114, 105, 112, 116, 105, 111, 110]]⟩, .slice (some ⟨w.heap.size + 6, 0, none⟩) 1 1, .slice (some ⟨w.heap.size + 7, 0, none⟩) 1 1), (⟨[112, 101, 114, 115, 111, 110], [116, 111, 112], 1, [[99, 110], [115, 110]], [[100, 101, 115, 99, 114, 105, 112, 116, 105, 111, 110], [117, 115, 101, 114, 80, 97, 115, 115, 119, 111, 114, 100]]⟩, .slice (some ⟨w.heap.size + 8, 0, none⟩) 2 2, .slice (some ⟨w.heap.size + 9, 0, none⟩) 2 2), (⟨[105, 110, 101, 116, 80, 101, 114, 115, 111, 110], [112, 101, 114, 115, 111, 110], 1, [], [[117, 105, 100], [109, 97, 105, 108], [101, 109, 112, 108, 111, 121, 101, 101, 78, 117, 109, 98, 101, 114], [97, 99, 116, 105, 118, 101]]⟩, .slice none 0 0, .slice (some ⟨w.heap.size + 10, 0, none⟩) 4 4), (⟨[103, 114, 111, 117, 112], [116, 111, 112], 1, [[99, 110], [109, 101, 109, 98, 101, 114]], [[100, 101, 115, 99, 114, 105, 112, 116, 105, 111, 110]]⟩, .slice (some ⟨w.heap.size + 11, 0, none⟩) 2 2, .slice (some ⟨w.heap.size + 12, 0, none⟩) 1 1), (⟨[115, 101, 99, 117, 114, 101, 100], [116, 111, 112], 2, [[117, 115, 101, 114, 80, 97, 115, 115, 119, 111, 114, 100]], []⟩, .slice (some ⟨w.heap.size + 13, 0, none⟩) 1 1, .slice none 0 0), (⟨[108, 97, 98, 101, 108, 108, 101, 100], [116, 111, 112], 2, [], [[117, 105, 100], [109, 97, 105, 108]]⟩, .slice none 0 0, .slice (some ⟨w.heap.size + 14, 0, none⟩) 2 2)]) ((hu.2 (w.heap.size + 15) (Nat.le_add_right _ _) hsF).trans hr16) rfl ?_
    intro p hp
    simp only [List.mem_cons, List.not_mem_nil, or_false] at hp
    rcases hp with rfl | rfl | rfl | rfl | rfl | rfl | rfl | rfl | rfl
    · exact ⟨nms_of_row (l := [[111, 98, 106, 101, 99, 116, 67, 108, 97, 115, 115]]) ((hu.2 (w.heap.size) (Nat.le_refl _) (Nat.lt_of_le_of_lt (Nat.le_add_right _ _) hsF)).trans q1) rfl, nms_of_row (l := [[99, 114, 101, 97, 116, 101, 100, 65, 116], [99, 104, 97, 110, 103, 101, 100, 65, 116], [112, 119, 100, 70, 97, 105, 108, 117, 114, 101], [112, 119, 100, 76, 111, 99, 107, 101, 100], [112, 119, 100, 67, 104, 97, 110, 103, 101, 100]]) ((hu.2 (w.heap.size + 1) (Nat.le_add_right _ _) (Nat.lt_of_le_of_lt (Nat.add_le_add_left (by decide) _) hsF)).trans q2) rfl⟩
    · exact ⟨nms_of_row (l := [[100, 99]]) ((hu.2 (w.heap.size + 2) (Nat.le_add_right _ _) (Nat.lt_of_le_of_lt (Nat.add_le_add_left (by decide) _) hsF)).trans q3) rfl, nms_of_row (l := [[100, 101, 115, 99, 114, 105, 112, 116, 105, 111, 110]]) ((hu.2 (w.heap.size + 3) (Nat.le_add_right _ _) (Nat.lt_of_le_of_lt (Nat.add_le_add_left (by decide) _) hsF)).trans q4) rfl⟩
    · exact ⟨nms_of_row (l := [[111]]) ((hu.2 (w.heap.size + 4) (Nat.le_add_right _ _) (Nat.lt_of_le_of_lt (Nat.add_le_add_left (by decide) _) hsF)).trans q5) rfl, nms_of_row (l := [[100, 101, 115, 99, 114, 105, 112, 116, 105, 111, 110]]) ((hu.2 (w.heap.size + 5) (Nat.le_add_right _ _) (Nat.lt_of_le_of_lt (Nat.add_le_add_left (by decide) _) hsF)).trans q6) rfl⟩
    · exact ⟨nms_of_row (l := [[111, 117]]) ((hu.2 (w.heap.size + 6) (Nat.le_add_right _ _) (Nat.lt_of_le_of_lt (Nat.add_le_add_left (by decide) _) hsF)).trans q7) rfl, nms_of_row (l := [[100, 101, 115, 99, 114, 105, 112, 116, 105, 111, 110]]) ((hu.2 (w.heap.size + 7) (Nat.le_add_right _ _) (Nat.lt_of_le_of_lt (Nat.add_le_add_left (by decide) _) hsF)).trans q8) rfl⟩
    · exact ⟨nms_of_row (l := [[99, 110], [115, 110]]) ((hu.2 (w.heap.size + 8) (Nat.le_add_right _ _) (Nat.lt_of_le_of_lt (Nat.add_le_add_left (by decide) _) hsF)).trans q9) rfl, nms_of_row (l := [[100, 101, 115, 99, 114, 105, 112, 116, 105, 111, 110], [117, 115, 101, 114, 80, 97, 115, 115, 119, 111, 114, 100]]) ((hu.2 (w.heap.size + 9) (Nat.le_add_right _ _) (Nat.lt_of_le_of_lt (Nat.add_le_add_left (by decide) _) hsF)).trans q10) rfl⟩
    · exact ⟨nms_none _, nms_of_row (l := [[117, 105, 100], [109, 97, 105, 108], [101, 109, 112, 108, 111, 121, 101, 101, 78, 117, 109, 98, 101, 114], [97, 99, 116, 105, 118, 101]]) ((hu.2 (w.heap.size + 10) (Nat.le_add_right _ _) (Nat.lt_of_le_of_lt (Nat.add_le_add_left (by decide) _) hsF)).trans q11) rfl⟩
    · exact ⟨nms_of_row (l := [[99, 110], [109, 101, 109, 98, 101, 114]]) ((hu.2 (w.heap.size + 11) (Nat.le_add_right _ _) (Nat.lt_of_le_of_lt (Nat.add_le_add_left (by decide) _) hsF)).trans q12) rfl, nms_of_row (l := [[100, 101, 115, 99, 114, 105, 112, 116, 105, 111, 110]]) ((hu.2 (w.heap.size + 12) (Nat.le_add_right _ _) (Nat.lt_of_le_of_lt (Nat.add_le_add_left (by decide) _) hsF)).trans q13) rfl⟩
    · exact ⟨nms_of_row (l := [[117, 115, 101, 114, 80, 97, 115, 115, 119, 111, 114, 100]]) ((hu.2 (w.heap.size + 13) (Nat.le_add_right _ _) (Nat.lt_of_le_of_lt (Nat.add_le_add_left (by decide) _) hsF)).trans q14) rfl, nms_none _⟩
    · exact ⟨nms_none _, nms_of_row (l := [[117, 105, 100], [109, 97, 105, 108]]) ((hu.2 (w.heap.size + 14) (Nat.le_add_right _ _) (Nat.lt_of_le_of_lt (Nat.add_le_add_left (by decide) _) hsF)).trans q15) rfl⟩)
  have HB := Lib.hid k0
  clear hb1 hr1 k1 q1 hb2 hr2 k2 q2 hb3 hr3 k3 q3 hb4 hr4 k4 q4 hb5 hr5 k5 q5 hb6 hr6 k6 q6 hb7 hr7 k7 q7 hb8 hr8 k8 q8 hb9 hr9 k9 q9 hb10 hr10 k10 q10 hb11 hr11 k11 q11 hb12 hr12 k12 q12 hb13 hr13 k13 q13 hb14 hr14 k14 q14 hb15 hr15 k15 q15 hb16 hr16 k0 hsF
  go_enter Try.func45, Try.ntmps45
  go_wp2_with fail
  go_ret
  exact ⟨_, rfl, HR, HB.out⟩
end Go.Proofs.Ytkinemlgifeimaa

/-
  The schema of the chapter; the chapter's examples.
-/
namespace Go.Proofs.Ytkinemlgifeimaa
open Go.RowKit

theorem core_is {u : World} {tv cv : Value} (h1 : IsTys u tv Mt.coreT) (h2 : IsCls u cv Mt.coreC) : IsSc u tv cv Mt.core :=
  ⟨h1, h2, by decide, by decide, by decide, by decide⟩
set_option maxRecDepth 100000 in
set_option maxHeartbeats 1000000 in
theorem core13_any (w : World) : Calls Try.prog 26 #[] w fun e w' => ∃ g1 g2, e = .returned (.agg #[.slice (some ⟨g1, 0, none⟩) 18 18, .slice (some ⟨g2, 0, none⟩) 9 9]) ∧ IsSc w' (.slice (some ⟨g1, 0, none⟩) 18 18) (.slice (some ⟨g2, 0, none⟩) 9 9) Mt.core ∧ Below w.heap.size w w' := by
  obtain ⟨w1, hw1⟩ : ∃ u, w.alloc (.cells #[.slice none 0 0, .slice none 0 0] 25) = u := ⟨_, rfl⟩
  have hs1 : w1.heap.size = w.heap.size + 1 := by rw [← hw1]; simp
  have HB1 : Hid (Below w.heap.size w w1) := Lib.hid (by rw [← hw1]; exact (Below.refl _ w).alloc (Nat.le_refl _) _)
  have HX1 : Hid (w1.heap[w.heap.size]? = some (.cells #[.slice none 0 0, .slice none 0 0] 25)) := Lib.hid (by rw [← hw1]; exact heap_alloc_new w _)
  have HT := Lib.hid (coreTypes_any w1)
  have HC := Lib.hid (fun u => coreClasses_any u)
  go_enter Try.func26, Try.ntmps26
  go_wp2_with fail
  refine (HT.out).mono ?_
  rintro e w2 ⟨g1, rfl, HT2, hb2⟩
  have HB2 := Lib.hid hb2
  clear hb2
  go_wp2_with fail
  refine (HC.out w2).mono ?_
  rintro e w3 ⟨g2, rfl, HC3, hb3⟩
  have hlt := HB2.out.size
  have hk := (hb3.block w.heap.size (by omega)).trans ((HB2.out.block w.heap.size (by omega)).trans HX1.out)
  have hc0 : w3.cell? ⟨w.heap.size, 0, none⟩ = some (.slice none 0 0) := by rw [cell_of_row _ _ _ _ _ _ hk]; rfl
  have hc1 : w3.cell? ⟨w.heap.size, 1, none⟩ = some (.slice none 0 0) := by rw [cell_of_row _ _ _ _ _ _ hk]; rfl
  have hf0 := frozen_of_row _ _ 0 _ _ hk
  have hf1 := frozen_of_row _ _ 1 _ _ hk
  have hk4 := heap_setCell_same _ w.heap.size 1 _ 25 (.slice (some ⟨g2, 0, none⟩) 9 9) (heap_setCell_same w3 w.heap.size 0 _ 25 (.slice (some ⟨g1, 0, none⟩) 18 18) hk)
  have hb4 : Below w.heap.size w ((w3.setCell ⟨w.heap.size, 0, none⟩ (.slice (some ⟨g1, 0, none⟩) 18 18)).setCell ⟨w.heap.size, 1, none⟩ (.slice (some ⟨g2, 0, none⟩) 9 9)) := (((HB1.out.trans (HB2.out.mono (by omega))).trans (hb3.mono (by omega))).setCell (p := ⟨w.heap.size, 0, none⟩) (Nat.le_refl _) _).setCell (p := ⟨w.heap.size, 1, none⟩) (Nat.le_refl _) _
  have hb5 : ∀ k, k ≠ w.heap.size → ((w3.setCell ⟨w.heap.size, 0, none⟩ (.slice (some ⟨g1, 0, none⟩) 18 18)).setCell ⟨w.heap.size, 1, none⟩ (.slice (some ⟨g2, 0, none⟩) 9 9)).heap[k]? = w3.heap[k]? := fun k hne => by
    rw [heap_setCell_other _ _ _ _ (fun h => hne h), heap_setCell_other _ _ _ _ (fun h => hne h)]
  have hz5 : ((w3.setCell ⟨w.heap.size, 0, none⟩ (.slice (some ⟨g1, 0, none⟩) 18 18)).setCell ⟨w.heap.size, 1, none⟩ (.slice (some ⟨g2, 0, none⟩) 9 9)).heap.size = w3.heap.size := by simp
  obtain ⟨w4, hw4⟩ : ∃ u, ((w3.setCell ⟨w.heap.size, 0, none⟩ (.slice (some ⟨g1, 0, none⟩) 18 18)).setCell ⟨w.heap.size, 1, none⟩ (.slice (some ⟨g2, 0, none⟩) 9 9)) = u := ⟨_, rfl⟩
  rw [hw4] at hk4 hb4 hb5 hz5
  have HSC := Lib.hid (core_is (HT2.out w4 ⟨by rw [hz5]; exact hb3.size, fun k h1 h2 => (hb5 k (by omega)).trans (hb3.block k h2)⟩) (HC3.out w4 ⟨by rw [hz5]; exact Nat.le_refl _, fun k h1 h2 => hb5 k (by omega)⟩))
  have c0 : w4.cell? ⟨w.heap.size, 0, none⟩ = some (.slice (some ⟨g1, 0, none⟩) 18 18) := by rw [cell_of_row _ _ _ _ _ _ hk4]; rfl
  have c1 : w4.cell? ⟨w.heap.size, 1, none⟩ = some (.slice (some ⟨g2, 0, none⟩) 9 9) := by rw [cell_of_row _ _ _ _ _ _ hk4]; rfl
  have HB4 := Lib.hid hb4
  clear hb3 hk hk4 hb4 hb5 hz5 HT2 HC3 hlt
  go_wp2_with fail
  refine bodyPost_ret (v := .agg #[.slice (some ⟨g1, 0, none⟩) 18 18, .slice (some ⟨g2, 0, none⟩) 9 9]) (by simp [results, Try.results26, go_sem, c0, c1]) rfl ⟨_, _, rfl, HSC.out, HB4.out⟩
namespace Mt
def nTop : List UInt8 := [116, 111, 112]
def nPERSON : List UInt8 := [80, 69, 82, 83, 79, 78]
def nInet : List UInt8 := [105, 110, 101, 116, 80, 101, 114, 115, 111, 110]
def nPerson : List UInt8 := [112, 101, 114, 115, 111, 110]
def nGroup : List UInt8 := [103, 114, 111, 117, 112]
def coreTn : List (List UInt8) := core.types.map fun t => foldL t.name
theorem core_kind1 : kindS core [nTop, nPERSON, nInet] = (nInet, true) := by decide +kernel
theorem core_kind2 : (kindS core [nPerson, nGroup]).2 = false := by decide +kernel
theorem core_chk : chk core = 0 := by decide +kernel
theorem core_must : (mustI core (idxs core [nGroup])) = [[99, 110], [109, 101, 109, 98, 101, 114], [111, 98, 106, 101, 99, 116, 99, 108, 97, 115, 115]] := by decide +kernel
theorem core_may : (mayI core (idxs core [nGroup])) = [[100, 101, 115, 99, 114, 105, 112, 116, 105, 111, 110], [99, 114, 101, 97, 116, 101, 100, 97, 116], [99, 104, 97, 110, 103, 101, 100, 97, 116], [112, 119, 100, 102, 97, 105, 108, 117, 114, 101], [112, 119, 100, 108, 111, 99, 107, 101, 100], [112, 119, 100, 99, 104, 97, 110, 103, 101, 100]] := by decide +kernel
theorem core_wants : (wantsS core [nGroup]).1 = [[99, 110], [109, 101, 109, 98, 101, 114], [111, 98, 106, 101, 99, 116, 99, 108, 97, 115, 115]] ∧ (wantsS core [nGroup]).2.length = 6 := by
  have h1 : (wantsS core [nGroup]).1 = those (mustI core (idxs core [nGroup])) (mayI core (idxs core [nGroup])) 2 := rfl
  have h2 : (wantsS core [nGroup]).2 = those (mustI core (idxs core [nGroup])) (mayI core (idxs core [nGroup])) 1 := rfl
  rw [h1, h2, core_must, core_may]
  refine ⟨?_, ?_⟩
  · have e : ∀ M Y : List (List UInt8), ∀ l, (dd (M ++ Y)).filter (fun f => decide (val M Y f = 2)) = l → l.Pairwise (fun a b => leB a b = true) → those M Y 2 = l := fun M Y l h hp => by
      unfold those; rw [h]; exact List.mergeSort_of_pairwise hp
    exact e _ _ _ (by decide +kernel) (by decide +kernel)
  · unfold those
    rw [List.length_mergeSort]
    decide +kernel
theorem core_in : ∀ c ∈ core.classes, ∀ x, x ∈ c.must ∨ x ∈ c.may → foldL x ∈ coreTn := by
  have h : (core.classes.all fun c => (c.must ++ c.may).all fun x => decide (foldL x ∈ coreTn)) = true := by decide +kernel
  intro c hc x hx
  have h2 := List.all_eq_true.1 (List.all_eq_true.1 h c hc) x (by rw [List.mem_append]; exact hx)
  exact of_decide_eq_true h2
end Mt
end Go.Proofs.Ytkinemlgifeimaa
