/-
  A place taken; all places of a connection dropped.
-/
import Derived.Test.YtmdhioifdnaajaaPgD
import Derived.Laws.StructEq
set_option linter.unusedVariables false
set_option linter.unusedSimpArgs false
namespace Go.Proofs.Ytmdhioifdnaajaa
open Go.RowKit Go.Shelf Go.Maps

theorem neqUse (k key : ByteArray) (v ver : Int) (u : World) : (binOp .neq 47 (.agg #[.string k, .int .i64 v]) (.agg #[.string key, .int .i64 ver])).run Try.prog u = .ok (.bool (!(decide (k = key) && decide (v = ver)))) u := by
  have hS : Try.prog.underlying 47 = some (.struct (Try.prog.fieldsOf 47)) := by kernel_rfl
  have hp : Try.prog.stoodInHeld 47 = false := by kernel_rfl
  have u3 := Try.underlying3
  have u9 := Try.underlying9
  rw [run_neq_struct, show (10000 : Nat) = 9999 + 1 from rfl, run_equalIn_agg u 9999 47 _ _ hS hp]
  have hf : (Try.prog.fieldsOf 47).toList = [⟨"key", 9, 0, false, "", "castellan/page", 0⟩, ⟨"version", 3, 1, false, "", "castellan/page", 16⟩] := by kernel_rfl
  rw [hf]
  rw [← beq_decG]
  go_simp
  by_cases h1 : k.toList = key.toList <;> by_cases h2 : v = ver <;> simp [h1, h2]
theorem RowsB.notMap {w : World} {D D2 : DataW Value} {g : Int → Nat} {L : Mt.Bk} {bm n : Nat} (h : RowsB w D g L) (hown : w.ownsMap Try.prog 3 RB bm n D2) {c : Int} (hc : Mt.rowB c L ≠ []) : g c ≠ bm := by
  obtain ⟨v, _, h2⟩ := h.row c
  obtain ⟨_, _, _, _, hb⟩ := h2.hasBlock (List.length_pos_iff.2 hc)
  exact fun e => ownsMapB_ne hown hb e.symm
theorem grownMap {w u : World} {bm k : Nat} (hg : w.grownBy u (some bm)) (hk : k < w.heap.size) (hne : k ≠ bm) : u.heap[k]? = w.heap[k]? := hg.block k hk (fun e => hne (by injection e))
theorem grownP {w u : World} {bm : Nat} {S : Nat → Prop} (hg : w.grownBy u (some bm)) (hS : S bm) : OnlyP S w u := ⟨hg.os, hg.tape, hg.output, hg.size, fun k hk hn => grownMap hg hk (fun e => hn (by rw [e]; exact hS))⟩
set_option maxRecDepth 100000 in
/-- All places of a connection gone. -/
theorem drop26_any {w : World} {B : Nat} {S : Nat → Prop} {N last : Nat} {L : Mt.Bk} {c : Int} (hc : (Lit.int .i64 c).wf = true) (h : IsBook w B S N last L) :
    Calls Try.prog 8 #[.pointer (some ⟨B, 0, none⟩), .int .i64 c] w fun e w' => e = .returned (.tuple #[]) ∧ IsBook w' B S N last (Mt.dropB c L) ∧ OnlyP S w w' := by
  obtain ⟨bm, D, g, h1, h2, h3, h4, h5, h6⟩ := h.ex
  have hkey := keyB hc
  have x1 : w.cell? ⟨B, 1, none⟩ = some (.map (some bm)) := by rw [cell_of_row _ _ _ _ _ _ h1]; rfl
  have HO := Lib.hid h2
  have HALL : Hid (∀ w1 : World, w1.ownsMap Try.prog 3 RB bm N (D.del (.int .i64 c)) → w.grownBy w1 (some bm) → IsBook w1 B S N last (Mt.dropB c L) ∧ OnlyP S w w1) := Lib.hid (fun w1 ho hg => by
    refine ⟨⟨h.ok.sub List.filter_sublist, h.le, ⟨bm, _, g, (grownMap hg (h.lt B h4) (fun e => ownsMapB_ne h2 h1 e.symm)).trans h1, ho, h3.del c (Mt.dropB_same c L) (fun c' hc' => Mt.dropB_other hc' L) (fun c' _ hne => grownMap hg (h.lt _ (h6 c' hne)) (h3.notMap h2 hne)), h4, h5, fun c' hne => h6 c' ?_⟩, fun k hk => Nat.lt_of_lt_of_le (h.lt k hk) hg.size⟩, grownP hg h5⟩
    by_cases e : c' = c
    · rw [e, Mt.dropB_same] at hne; exact absurd rfl hne
    · rw [Mt.dropB_other e] at hne; exact hne)
  clear h h1 h2 h3 h4 h5 h6 hc
  go_enter Try.func8, Try.ntmps8
  go_wp2_with (first | (at_delete; refine wpList_delete_own _ rfl _ _ 40 3 rfl 44 keyLawB Try.underlying40 RB bm N D rfl HO.out _ _ rfl hkey ?_; intro w1 hown1 hturn1))
  try go_frame
  refine bodyPost_end (results_none rfl _ _ _) rfl ?_
  exact ⟨rfl, HALL.out _ hown1 hturn1.grown⟩
/-- What a connection's row is in memory, and what its look-up gives. -/
theorem look26 {w : World} {D : DataW Value} {g : Int → Nat} {L : Mt.Bk} {bm N : Nat} {c : Int} (hc : (Lit.int .i64 c).wf = true) (hown : w.ownsMap Try.prog 3 RB bm N D) (h : RowsB w D g L) :
    ∃ a cp, (Instr.lookup 40 (.map (some bm)) (.int .i64 c) false).run Try.prog w = .ok (.slice a (Mt.rowB c L).length cp) w ∧ IsRw 49 4 w (g c) (.slice a (Mt.rowB c L).length cp) (Mt.rowB c L).length (plsC (Mt.rowB c L)) ∧ D.atKey (.int .i64 c) (.held (.slice none 0 0)) = .held (.slice a (Mt.rowB c L).length cp) := by
  obtain ⟨v, ps, hrun, hv⟩ := hown.lookup keyLawB Try.underlying40 (Try.zeroPlaces w) (zd := .held (.slice none 0 0)) (zp := []) rfl (keyB hc)
  obtain ⟨v', h1, h2⟩ := h.row c
  obtain ⟨a, n, cp, rfl, hz⟩ := RB_inv hv
  rw [h1] at hz
  injection hz with hz _
  injection hz with hz
  subst hz
  obtain ⟨a', c', e⟩ := h2.form
  injection e with e1 e2 e3
  subst e2
  exact ⟨a, cp, hrun, h2, h1⟩
end Go.Proofs.Ytmdhioifdnaajaa
