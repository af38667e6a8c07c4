/-
  The schema of the chapter; the chapter's examples.
-/
import Derived.Test.YthkhicpkkmhfbaaScPc
namespace Go.Proofs.Ythkhicpkkmhfbaa
open Go.RowKit

theorem core_is {u : World} {tv cv : Value} (h1 : IsTys u tv Mt.coreT) (h2 : IsCls u cv Mt.coreC) : IsSc u tv cv Mt.core :=
  ⟨h1, h2, by decide, by decide, by decide, by decide⟩
set_option maxRecDepth 100000 in
set_option maxHeartbeats 1000000 in
theorem core13_any (w : World) : Calls Try.prog 26 #[] w fun e w' => ∃ g1 g2, e = .returned (.agg #[.slice (some ⟨g1, 0, none⟩) 18 18, .slice (some ⟨g2, 0, none⟩) 9 9]) ∧ IsSc w' (.slice (some ⟨g1, 0, none⟩) 18 18) (.slice (some ⟨g2, 0, none⟩) 9 9) Mt.core ∧ Below w.heap.size w w' := by
  obtain ⟨w1, hw1⟩ : ∃ u, w.alloc (.cells #[.slice none 0 0, .slice none 0 0] 25) = u := ⟨_, rfl⟩
  have hs1 : w1.heap.size = w.heap.size + 1 := by rw [← hw1]; simp
  have HB1 : Hid (Below w.heap.size w w1) := Lib.hid (by rw [← hw1]; exact (Below.refl _ w).alloc (Nat.le_refl _) _)
  have HX1 : Hid (w1.heap[w.heap.size]? = some (.cells #[.slice none 0 0, .slice none 0 0] 25)) := Lib.hid (by rw [← hw1]; exact heap_alloc_new w _)
  have HT := Lib.hid (coreTypes_any w1)
  have HC := Lib.hid (fun u => coreClasses_any u)
  go_enter Try.func26, Try.ntmps26
  go_wp2_with fail
  refine (HT.out).mono ?_
  rintro e w2 ⟨g1, rfl, HT2, hb2⟩
  have HB2 := Lib.hid hb2
  clear hb2
  go_wp2_with fail
  refine (HC.out w2).mono ?_
  rintro e w3 ⟨g2, rfl, HC3, hb3⟩
  have hlt := HB2.out.size
  have hk := (hb3.block w.heap.size (by omega)).trans ((HB2.out.block w.heap.size (by omega)).trans HX1.out)
  have hc0 : w3.cell? ⟨w.heap.size, 0, none⟩ = some (.slice none 0 0) := by rw [cell_of_row _ _ _ _ _ _ hk]; rfl
  have hc1 : w3.cell? ⟨w.heap.size, 1, none⟩ = some (.slice none 0 0) := by rw [cell_of_row _ _ _ _ _ _ hk]; rfl
  have hf0 := frozen_of_row _ _ 0 _ _ hk
  have hf1 := frozen_of_row _ _ 1 _ _ hk
  have hk4 := heap_setCell_same _ w.heap.size 1 _ 25 (.slice (some ⟨g2, 0, none⟩) 9 9) (heap_setCell_same w3 w.heap.size 0 _ 25 (.slice (some ⟨g1, 0, none⟩) 18 18) hk)
  have hb4 : Below w.heap.size w ((w3.setCell ⟨w.heap.size, 0, none⟩ (.slice (some ⟨g1, 0, none⟩) 18 18)).setCell ⟨w.heap.size, 1, none⟩ (.slice (some ⟨g2, 0, none⟩) 9 9)) := (((HB1.out.trans (HB2.out.mono (by omega))).trans (hb3.mono (by omega))).setCell (p := ⟨w.heap.size, 0, none⟩) (Nat.le_refl _) _).setCell (p := ⟨w.heap.size, 1, none⟩) (Nat.le_refl _) _
  have hb5 : ∀ k, k ≠ w.heap.size → ((w3.setCell ⟨w.heap.size, 0, none⟩ (.slice (some ⟨g1, 0, none⟩) 18 18)).setCell ⟨w.heap.size, 1, none⟩ (.slice (some ⟨g2, 0, none⟩) 9 9)).heap[k]? = w3.heap[k]? := fun k hne => by
    rw [heap_setCell_other _ _ _ _ (fun h => hne h), heap_setCell_other _ _ _ _ (fun h => hne h)]
  have hz5 : ((w3.setCell ⟨w.heap.size, 0, none⟩ (.slice (some ⟨g1, 0, none⟩) 18 18)).setCell ⟨w.heap.size, 1, none⟩ (.slice (some ⟨g2, 0, none⟩) 9 9)).heap.size = w3.heap.size := by simp
  obtain ⟨w4, hw4⟩ : ∃ u, ((w3.setCell ⟨w.heap.size, 0, none⟩ (.slice (some ⟨g1, 0, none⟩) 18 18)).setCell ⟨w.heap.size, 1, none⟩ (.slice (some ⟨g2, 0, none⟩) 9 9)) = u := ⟨_, rfl⟩
  rw [hw4] at hk4 hb4 hb5 hz5
  have HSC := Lib.hid (core_is (HT2.out w4 ⟨by rw [hz5]; exact hb3.size, fun k h1 h2 => (hb5 k (by omega)).trans (hb3.block k h2)⟩) (HC3.out w4 ⟨by rw [hz5]; exact Nat.le_refl _, fun k h1 h2 => hb5 k (by omega)⟩))
  have c0 : w4.cell? ⟨w.heap.size, 0, none⟩ = some (.slice (some ⟨g1, 0, none⟩) 18 18) := by rw [cell_of_row _ _ _ _ _ _ hk4]; rfl
  have c1 : w4.cell? ⟨w.heap.size, 1, none⟩ = some (.slice (some ⟨g2, 0, none⟩) 9 9) := by rw [cell_of_row _ _ _ _ _ _ hk4]; rfl
  have HB4 := Lib.hid hb4
  clear hb3 hk hk4 hb4 hb5 hz5 HT2 HC3 hlt
  go_wp2_with fail
  refine bodyPost_ret (v := .agg #[.slice (some ⟨g1, 0, none⟩) 18 18, .slice (some ⟨g2, 0, none⟩) 9 9]) (by simp [results, Try.results26, go_sem, c0, c1]) rfl ⟨_, _, rfl, HSC.out, HB4.out⟩
namespace Mt
def nTop : List UInt8 := [116, 111, 112]
def nPERSON : List UInt8 := [80, 69, 82, 83, 79, 78]
def nInet : List UInt8 := [105, 110, 101, 116, 80, 101, 114, 115, 111, 110]
def nPerson : List UInt8 := [112, 101, 114, 115, 111, 110]
def nGroup : List UInt8 := [103, 114, 111, 117, 112]
def coreTn : List (List UInt8) := core.types.map fun t => foldL t.name
theorem core_kind1 : kindS core [nTop, nPERSON, nInet] = (nInet, true) := by decide +kernel
theorem core_kind2 : (kindS core [nPerson, nGroup]).2 = false := by decide +kernel
theorem core_chk : chk core = 0 := by decide +kernel
theorem core_must : (mustI core (idxs core [nGroup])) = [[99, 110], [109, 101, 109, 98, 101, 114], [111, 98, 106, 101, 99, 116, 99, 108, 97, 115, 115]] := by decide +kernel
theorem core_may : (mayI core (idxs core [nGroup])) = [[100, 101, 115, 99, 114, 105, 112, 116, 105, 111, 110], [99, 114, 101, 97, 116, 101, 100, 97, 116], [99, 104, 97, 110, 103, 101, 100, 97, 116], [112, 119, 100, 102, 97, 105, 108, 117, 114, 101], [112, 119, 100, 108, 111, 99, 107, 101, 100], [112, 119, 100, 99, 104, 97, 110, 103, 101, 100]] := by decide +kernel
theorem core_wants : (wantsS core [nGroup]).1 = [[99, 110], [109, 101, 109, 98, 101, 114], [111, 98, 106, 101, 99, 116, 99, 108, 97, 115, 115]] ∧ (wantsS core [nGroup]).2.length = 6 := by
  have h1 : (wantsS core [nGroup]).1 = those (mustI core (idxs core [nGroup])) (mayI core (idxs core [nGroup])) 2 := rfl
  have h2 : (wantsS core [nGroup]).2 = those (mustI core (idxs core [nGroup])) (mayI core (idxs core [nGroup])) 1 := rfl
  rw [h1, h2, core_must, core_may]
  refine ⟨?_, ?_⟩
  · have e : ∀ M Y : List (List UInt8), ∀ l, (dd (M ++ Y)).filter (fun f => decide (val M Y f = 2)) = l → l.Pairwise (fun a b => leB a b = true) → those M Y 2 = l := fun M Y l h hp => by
      unfold those; rw [h]; exact List.mergeSort_of_pairwise hp
    exact e _ _ _ (by decide +kernel) (by decide +kernel)
  · unfold those
    rw [List.length_mergeSort]
    decide +kernel
theorem core_in : ∀ c ∈ core.classes, ∀ x, x ∈ c.must ∨ x ∈ c.may → foldL x ∈ coreTn := by
  have h : (core.classes.all fun c => (c.must ++ c.may).all fun x => decide (foldL x ∈ coreTn)) = true := by decide +kernel
  intro c hc x hx
  have h2 := List.all_eq_true.1 (List.all_eq_true.1 h c hc) x (by rw [List.mem_append]; exact hx)
  exact of_decide_eq_true h2
end Mt
end Go.Proofs.Ythkhicpkkmhfbaa
