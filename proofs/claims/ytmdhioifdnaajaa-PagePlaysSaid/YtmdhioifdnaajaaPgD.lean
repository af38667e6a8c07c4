/-
  A new book; a connection's row set, or gone; how many places there are.
-/
import Derived.Test.YtmdhioifdnaajaaPgC
set_option linter.unusedVariables false
set_option linter.unusedSimpArgs false
namespace Go.Proofs.Ytmdhioifdnaajaa
open Go.RowKit Go.Shelf Go.Maps

theorem keyB {c : Int} (hc : (Lit.int .i64 c).wf = true) : keyOf Try.prog 3 (.int .i64 c) = some (.int .i64 c) := Maps.keyOf_int_mk Try.underlying3 hc
set_option maxRecDepth 100000 in
theorem new26_any (w : World) : Calls Try.prog 5 #[] w fun e w' => ∃ B S, e = .returned (.pointer (some ⟨B, 0, none⟩)) ∧ IsBook w' B S 0 0 [] ∧ Below w.heap.size w w' ∧ (∀ k, S k → w.heap.size ≤ k) := by
  have hmm := @run_makeMap Try.prog
  have hA : Below w.heap.size w (w.alloc (.map #[] 0)) := (Below.refl _ w).alloc (Nat.le_refl _) _
  obtain ⟨w1, hw1⟩ : ∃ u, w.alloc (.map #[] 0) = u := ⟨_, rfl⟩
  have hown : w1.ownsMap Try.prog 3 RB w.heap.size 0 (.map []) := by rw [← hw1]; exact World.ownsMap_made _ _ _ _
  have hs1 : w1.heap.size = w.heap.size + 1 := by rw [← hw1]; simp
  rw [hw1] at hA
  obtain ⟨w2, hw2⟩ : ∃ u, w1.alloc (.cells #[.int .u64 0, .map (some w.heap.size)] 43) = u := ⟨_, rfl⟩
  have hA2 : Below w1.heap.size w1 w2 := by rw [← hw2]; exact (Below.refl _ w1).alloc (Nat.le_refl _) _
  have hx : w2.heap[w1.heap.size]? = some (.cells #[.int .u64 0, .map (some w.heap.size)] 43) := by rw [← hw2]; exact heap_alloc_new w1 _
  have hbk : IsBook w2 w1.heap.size (fun k => k = w.heap.size ∨ k = w1.heap.size) 0 0 [] := by
    refine ⟨Mt.BkOk.nil _, Nat.le_refl _, ⟨w.heap.size, .map [], fun _ => 0, hx, ownsMapB_block hown (hA2.block _ (by omega)), ⟨fun c => ?_, fun c => ?_, fun c c' h => absurd rfl h⟩, .inr rfl, .inl rfl, fun c h => absurd rfl h⟩, fun k hk => ?_⟩
    · exact ⟨(fun h => nomatch h), (fun h => absurd rfl h)⟩
    · exact ⟨_, rfl, IsRw.nil _ _ _ _⟩
    · have := lt_of_block hx
      rcases hk with rfl | rfl <;> omega
  have hb12 := hA.trans (hA2.mono (by omega))
  have hfin : IsBook ((w.alloc (.map #[] 0)).alloc (.cells #[.int .u64 0, .map (some w.heap.size)] 43)) (w.heap.size + 1) (fun k => k = w.heap.size ∨ k = w.heap.size + 1) 0 0 [] ∧ Below w.heap.size w ((w.alloc (.map #[] 0)).alloc (.cells #[.int .u64 0, .map (some w.heap.size)] 43)) := by
    rw [hw1, hw2, ← hs1]; exact ⟨hbk, hb12⟩
  have HF := Lib.hid hfin
  clear hA hown hs1 hA2 hx hbk hw1 hw2 hb12 hfin
  go_enter Try.func5, Try.ntmps5
  go_wp2_with fail
  all_goals (go_ret; exact ⟨_, _, rfl, HF.out.1, HF.out.2, fun k hk => by rcases hk with rfl | rfl <;> omega⟩)
set_option maxRecDepth 100000 in
/-- A connection's row gone. -/
theorem setNil26_any {w : World} {B bm N : Nat} {D : DataW Value} {x : Value} {c : Int} (hc : (Lit.int .i64 c).wf = true) (hB : w.heap[B]? = some (.cells #[x, .map (some bm)] 43)) (hown : w.ownsMap Try.prog 3 RB bm N D) (a : Option Addr) (cp : Nat) :
    Calls Try.prog 17 #[.pointer (some ⟨B, 0, none⟩), .int .i64 c, .slice a 0 cp] w fun e w' => e = .returned (.tuple #[]) ∧ w'.ownsMap Try.prog 3 RB bm N (D.del (.int .i64 c)) ∧ w.grownBy w' (some bm) := by
  have hkey := keyB hc
  have x1 : w.cell? ⟨B, 1, none⟩ = some (.map (some bm)) := by rw [cell_of_row _ _ _ _ _ _ hB]; rfl
  have HO := Lib.hid hown
  clear hB hown hc
  go_enter Try.func17, Try.ntmps17
  go_wp2_with (first | (at_delete; refine wpList_delete_own _ rfl _ _ 40 3 rfl 44 keyLawB Try.underlying40 RB bm N D rfl HO.out _ _ rfl hkey ?_; intro w1 hown1 hturn1))
  go_frame
  first | (go_ret; exact ⟨rfl, hown1, hturn1.grown⟩) | (refine bodyPost_ret (results_none rfl _ _ _) rfl ?_; exact ⟨rfl, hown1, hturn1.grown⟩)
set_option maxRecDepth 100000 in
/-- A connection's row is another one. -/
theorem setRow26_any {w : World} {B bm N : Nat} {D : DataW Value} {x : Value} {c : Int} (hc : (Lit.int .i64 c).wf = true) (hN : N ≤ 1000000) (hB : w.heap[B]? = some (.cells #[x, .map (some bm)] 43)) (hown : w.ownsMap Try.prog 3 RB bm N D) (a : Option Addr) (n cp : Nat) (hn : 0 < n) :
    Calls Try.prog 17 #[.pointer (some ⟨B, 0, none⟩), .int .i64 c, .slice a n cp] w fun e w' => e = .returned (.tuple #[]) ∧ w'.ownsMap Try.prog 3 RB bm (N + 1) (D.put (.int .i64 c) (.held (.slice a n cp))) ∧ w.grownBy w' (some bm) := by
  have hkey := keyB hc
  have x1 : w.cell? ⟨B, 1, none⟩ = some (.map (some bm)) := by rw [cell_of_row _ _ _ _ _ _ hB]; rfl
  have HO := Lib.hid hown
  have d1 : ((n : Int) == 0) = false := by rw [beq_eq_false_iff_ne]; omega
  clear hB hown hc hn
  go_enter Try.func17, Try.ntmps17
  go_wp2_with (first | (at_mapUpdate; refine wpList_mapUpdate_own _ rfl _ _ _ 40 rfl 3 44 keyLawB Try.underlying40 RB bm N D rfl HO.out (by unfold maxLen; omega) _ _ _ rfl rfl hkey _ [] rfl ?_; intro w1 hown1 hturn1))
  all_goals (first | (go_ret; exact ⟨rfl, hown1, hturn1⟩) | (refine bodyPost_end (results_none rfl _ _ _) rfl ?_; exact ⟨rfl, hown1, hturn1⟩))
end Go.Proofs.Ytmdhioifdnaajaa
