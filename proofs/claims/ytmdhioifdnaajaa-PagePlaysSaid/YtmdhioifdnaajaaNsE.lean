/-
  nest.Copy of a list whose elements have none beneath.
-/
import Derived.Test.YtmdhioifdnaajaaNsD
import Derived.Deep.LoopGhost
import Derived.Laws.EntriesVeiled
set_option linter.unusedVariables false
set_option linter.unusedSimpArgs false
namespace Go.Proofs.Ytmdhioifdnaajaa
open Go.RowKit Go.Shelf

set_option maxRecDepth 100000 in
set_option maxHeartbeats 2000000 in
theorem copyFlat_any {fl : List (Int × ByteArray)} {n b : Nat} {w : World} (hn : fl.length = n) (h0 : 0 < n) (h1 : n ≤ 1000) (hb : w.heap[b]? = some (.cells (flC fl).toArray 62)) :
    Calls Try.prog 28 #[.slice (some ⟨b, 0, none⟩) n n, sameV, kidsV] w fun e w' => ∃ gb, e = .returned (.slice (some ⟨gb, 0, none⟩) n n) ∧ RowF gb n n fl w' ∧ Below w.heap.size w w' ∧ w.heap.size ≤ gb := by
  have hmm := @run_makeMap Try.prog
  obtain ⟨w1, hw1⟩ : ∃ u, w.alloc (.map #[] 0) = u := ⟨_, rfl⟩
  have hA : Below w.heap.size w w1 := by rw [← hw1]; exact (Below.refl _ w).alloc (Nat.le_refl _) _
  have hx1 : w1.heap[w.heap.size]? = some (.map #[] 0) := by rw [← hw1]; exact heap_alloc_new w _
  obtain ⟨w2, hw2⟩ : ∃ u, w1.alloc (.cells #[sameV, kidsV, .slice none 0 0, .map (some w.heap.size)] 81) = u := ⟨_, rfl⟩
  have hA2 : Below w1.heap.size w1 w2 := by rw [← hw2]; exact (Below.refl _ w1).alloc (Nat.le_refl _) _
  have hx2 : w2.heap[w1.heap.size]? = some (.cells #[sameV, kidsV, .slice none 0 0, .map (some w.heap.size)] 81) := by rw [← hw2]; exact heap_alloc_new w1 _
  have hl1 := lt_of_block hx1
  have hb12 := hA.trans (hA2.mono hA.size)
  have HEN := Lib.hid (enterFlat_any (w := w2) hn h0 h1 ((hb12.block _ (lt_of_block hb)).trans hb) hx2 ((hA2.block _ hl1).trans hx1))
  have HB2 := Lib.hid hb12
  have HL : Hid (w.heap.size < w1.heap.size ∧ w1.heap.size < w2.heap.size) := Lib.hid ⟨hl1, lt_of_block hx2⟩
  have HNN := Lib.hid (And.intro hn (And.intro h0 h1))
  clear hA hx1 hA2 hx2 hl1 hb12 hb hn h0 h1
  unfold sameV kidsV at *
  go_enter Try.func28, Try.ntmps28
  go_upto_region 2 with fail
  clear hw1 hw2
  go_wp2_with fail
  refine (HEN.out).mono ?_
  rintro e w3 ⟨gb, lb, lv, rfl, hcs, hrf, hg, hl, hgl, ho⟩
  have HR : Hid (CopyS w3 w1.heap.size lb w.heap.size gb lv ⟨b, 0, none⟩ n 0 ∧ RowF gb n n fl w3 ∧ Below w.heap.size w w3) := Lib.hid ⟨hcs, hrf, HB2.out.trans (ho.toBelow (fun k hk => by have := HL.out; simp at hk; omega) HB2.out.size)⟩
  have HG := Lib.hid (And.intro hg (And.intro hl hgl))
  clear hcs hrf hg hl hgl ho HEN
  go_wp2_with fail
  go_loopg [18] (n + 1) (fun g _ wr => Hid ((g = 0 ∧ ∃ a c, wr.cell? ⟨w1.heap.size, 2, none⟩ = some (.slice a 0 c)) ∨ ∃ d, d + g = n + 1 ∧ 1 ≤ g ∧ CopyS wr w1.heap.size lb w.heap.size gb lv ⟨b, 0, none⟩ n d) ∧ Hid (RowF gb n n fl wr ∧ Below w.heap.size w wr))
  case atStart => exact ⟨Lib.hid (.inr ⟨0, by omega, by omega, HR.out.1⟩), Lib.hid HR.out.2⟩
  case round =>
    obtain ⟨HC, HRW⟩ := hrel
    rcases HC.out with ⟨hg0, a, c, hcell⟩ | ⟨d, hdg, hg1, hcs⟩
    · subst hg0
      have d1 : decide ((0 : Int) < ((0 : Nat) : Int)) = false := rfl
      go_wp2_with fail
      all_goals (go_ret; exact ⟨_, rfl, HRW.out.1, HRW.out.2, Nat.le_trans HB2.out.size HG.out.1⟩)
    · obtain ⟨gg, rfl⟩ : ∃ gg, gk = gg + 1 := ⟨gk - 1, by omega⟩
      obtain ⟨off, cap, rfl, -, -, -⟩ := hcs.at
      have c2 := (box4N hcs.box).2.2.1
      have hlb : lb ≠ w1.heap.size := by have := HL.out; have := HG.out; omega
      have hlm : lb ≠ w.heap.size := by have := HL.out; have := HG.out; omega
      have hgc : gb ≠ w1.heap.size := by have := HL.out; have := HG.out; omega
      have hgm : gb ≠ w.heap.size := by have := HL.out; have := HG.out; omega
      have hgl := HG.out.2.2
      have hmc : w.heap.size ≠ w1.heap.size := by have := HL.out; omega
      by_cases hd : d < n
      · have HK := Lib.hid (stepKid_any HNN.out.1 HNN.out.2.2 hd hcs HRW.out.1 hlb hlm hgl hgc hgm)
        clear hcs hlb hlm hgc hgm hgl hmc
        go_wp2_with fail
        refine (HK.out).mono ?_
        rintro e w5 ⟨rfl, hcs5, hrf5, ho5⟩
        have H5 : Hid (CopyS w5 w1.heap.size lb w.heap.size gb (.slice (some ⟨lb, off, none⟩) 1 cap) ⟨b, 0, none⟩ n (d + 1)) := Lib.hid hcs5
        have H6 : Hid (RowF gb n n fl w5 ∧ Below w.heap.size w w5) := Lib.hid ⟨hrf5, HRW.out.2.trans (ho5.toBelow (fun k hk => by have := HL.out; have := HG.out; simp at hk; omega) HRW.out.2.size)⟩
        clear hcs5 hrf5 ho5
        go_wp2_with fail
        go_roundg gg
        case rel => exact ⟨Lib.hid (.inr ⟨d + 1, by omega, by omega, H5.out⟩), H6⟩
        case measure => exact Nat.lt_succ_self _
      · obtain rfl : d = n := by omega
        have HK := Lib.hid (stepEnd_any hcs HRW.out.1 hmc hgc hgm)
        clear hcs hlb hlm hgc hgm hgl hmc
        go_wp2_with fail
        refine (HK.out).mono ?_
        rintro e w5 ⟨rfl, hcell5, hrf5, ho5⟩
        have H5 := Lib.hid hcell5
        have H6 : Hid (RowF gb d d fl w5 ∧ Below w.heap.size w w5) := Lib.hid ⟨hrf5, HRW.out.2.trans (ho5.toBelow (fun k hk => by have := HL.out; have := HG.out; simp at hk; omega) HRW.out.2.size)⟩
        clear hcell5 hrf5 ho5
        go_wp2_with fail
        go_roundg gg
        case rel => exact ⟨Lib.hid (.inl ⟨by omega, H5.out⟩), H6⟩
        case measure => exact Nat.lt_succ_self _
end Go.Proofs.Ytmdhioifdnaajaa
