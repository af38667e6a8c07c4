/-
  What page.Answer comes to.
-/
import Derived.Test.YtmdhioifdnaajaaNsE
import Derived.Test.YtmdhioifdnaajaaPgAsk
import Derived.Test.YtmdhioifdnaajaaTvI
import Derived.Test.YtmdhioifdnaajaaTvF
set_option linter.unusedVariables false
set_option linter.unusedSimpArgs false
namespace Go.Proofs.Ytmdhioifdnaajaa
open Go.RowKit Go.Shelf

set_option maxRecDepth 100000 in
theorem leaf7_any (t : Int) (s : ByteArray) (w : World) : Calls Try.prog 23 #[.int .i64 t, .string s] w fun e w' => e = .returned (.agg #[.int .i64 t, .string s, .slice none 0 0]) ∧ Below w.heap.size w w' := by
  obtain ⟨w1, hw1⟩ : ∃ u, w.alloc (.cells #[.int .i64 0, .string ⟨#[]⟩, .slice none 0 0] 62) = u := ⟨_, rfl⟩
  have hA : Below w.heap.size w w1 := by rw [← hw1]; exact (Below.refl _ w).alloc (Nat.le_refl _) _
  have hx : w1.heap[w.heap.size]? = some (.cells #[.int .i64 0, .string ⟨#[]⟩, .slice none 0 0] 62) := by rw [← hw1]; exact heap_alloc_new w _
  have hr := set3N hx (.int .i64 t) (.string s) (.slice none 0 0)
  have ho := only3N (w := w1) (b := w.heap.size) (.int .i64 t) (.string s) (.slice none 0 0)
  have hB : Below w.heap.size w (((w1.setCell ⟨w.heap.size, 0, none⟩ (.int .i64 t)).setCell ⟨w.heap.size, 1, none⟩ (.string s)).setCell ⟨w.heap.size, 2, none⟩ (.slice none 0 0)) := hA.trans (ho.toBelow (fun k hk => by simp at hk; omega) hA.size)
  obtain ⟨n0, n1, n2⟩ := box3N hr
  have HF := Lib.hid (And.intro (load3N n0 n1 n2 Try.underlying62 Try.szNode) hB)
  obtain ⟨⟨z0, z1, z2⟩, f0, f1, f2⟩ := box3FN hx
  clear hA hx hr ho hB n0 n1 n2
  go_enter Try.func23, Try.ntmps23
  go_wp2_with fail
  exact post_cellN rfl _ _ rfl rfl HF.out.1 ⟨rfl, HF.out.2⟩
set_option maxRecDepth 100000 in
theorem seqFlat_any {fl : List (Int × ByteArray)} {n b : Nat} {w : World} (t : Int) (hn : fl.length = n) (h0 : 0 < n) (h1 : n ≤ 1000) (hb : w.heap[b]? = some (.cells (flC fl).toArray 62)) :
    Calls Try.prog 22 #[.int .i64 t, .slice (some ⟨b, 0, none⟩) n n] w fun e w' => ∃ gb, e = .returned (.agg #[.int .i64 t, .string ⟨#[]⟩, .slice (some ⟨gb, 0, none⟩) n n]) ∧ RowF gb n n fl w' ∧ Below w.heap.size w w' ∧ w.heap.size ≤ gb := by
  obtain ⟨w1, hw1⟩ : ∃ u, w.alloc (.cells #[.int .i64 0, .string ⟨#[]⟩, .slice none 0 0] 62) = u := ⟨_, rfl⟩
  have hA : Below w.heap.size w w1 := by rw [← hw1]; exact (Below.refl _ w).alloc (Nat.le_refl _) _
  have hx : w1.heap[w.heap.size]? = some (.cells #[.int .i64 0, .string ⟨#[]⟩, .slice none 0 0] 62) := by rw [← hw1]; exact heap_alloc_new w _
  have HC := Lib.hid (copyFlat_any (w := w1) hn h0 h1 ((hA.block _ (lt_of_block hb)).trans hb))
  have HA := Lib.hid hA
  have HX := Lib.hid hx
  have HT : Hid (∀ (w2 : World) (gb : Nat), RowF gb n n fl w2 → Below w1.heap.size w1 w2 → w1.heap.size ≤ gb →
      ((w2.cell? ⟨w.heap.size, 0, none⟩ = some (.int .i64 0) ∧ w2.cell? ⟨w.heap.size, 1, none⟩ = some (.string ⟨#[]⟩) ∧ w2.cell? ⟨w.heap.size, 2, none⟩ = some (.slice none 0 0)) ∧ (w2.frozen? ⟨w.heap.size, 0, none⟩ = false ∧ w2.frozen? ⟨w.heap.size, 1, none⟩ = false ∧ w2.frozen? ⟨w.heap.size, 2, none⟩ = false)) ∧
      ∀ u, u = (((w2.setCell ⟨w.heap.size, 0, none⟩ (.int .i64 t)).setCell ⟨w.heap.size, 1, none⟩ (.string ⟨#[]⟩)).setCell ⟨w.heap.size, 2, none⟩ (.slice (some ⟨gb, 0, none⟩) n n)) →
        (loadVar 62 ⟨w.heap.size, 0, none⟩).run Try.prog u = .ok (.agg #[.int .i64 t, .string ⟨#[]⟩, .slice (some ⟨gb, 0, none⟩) n n]) u ∧ RowF gb n n fl u ∧ Below w.heap.size w u ∧ w.heap.size ≤ gb) := Lib.hid (fun w2 gb hr hb2 hg => by
    have hx2 := (hb2.block _ (lt_of_block hx)).trans hx
    refine ⟨box3FN hx2, fun u hu => ?_⟩
    have hr2 := set3N hx2 (.int .i64 t) (.string ⟨#[]⟩) (.slice (some ⟨gb, 0, none⟩) n n)
    have ho := only3N (w := w2) (b := w.heap.size) (.int .i64 t) (.string ⟨#[]⟩) (.slice (some ⟨gb, 0, none⟩) n n)
    rw [← hu] at hr2 ho
    obtain ⟨n0, n1, n2⟩ := box3N hr2
    have hlt := lt_of_block hx
    exact ⟨load3N n0 n1 n2 Try.underlying62 Try.szNode, hr.kept (ho.block _ hr.lt (by simp; omega)), (hA.trans (hb2.mono hA.size)).trans (ho.toBelow (fun k hk => by simp at hk; omega) (Nat.le_trans hA.size hb2.size)), by omega⟩)
  clear hA hx hb hn h0 h1
  unfold sameV kidsV at HC
  go_enter Try.func22, Try.ntmps22
  go_upto_region 1 with fail
  clear hw1
  go_wp2_with fail
  refine (HC.out).mono ?_
  rintro e w2 ⟨gb, rfl, hr, hb2, hg⟩
  obtain ⟨⟨⟨z0, z1, z2⟩, f0, f1, f2⟩, hfin⟩ := HT.out w2 gb hr hb2 hg
  have HF := Lib.hid (hfin _ rfl)
  clear hr hb2 hg hfin
  go_wp2_with fail
  exact post_cellN rfl _ _ rfl rfl HF.out.1 ⟨gb, rfl, HF.out.2⟩
theorem isSize26_any (n : Int) (w : World) : Calls Try.prog 20 #[.int .i64 n] w fun e w' => e = .returned (.bool (decide (0 ≤ n ∧ n ≤ 2147483647))) ∧ w' = w := by
  by_cases h0 : 0 ≤ n
  · by_cases h1 : n ≤ 2147483647
    · rw [decide_eq_true ⟨h0, h1⟩]
      have d0 : decide ((0 : Int) ≤ n) = true := decide_eq_true h0
      have d1 : decide (n ≤ 2147483647) = true := decide_eq_true h1
      go_enter Try.func20, Try.ntmps20
      go_wp2_with fail
      all_goals (go_ret; exact ⟨rfl, rfl⟩)
    · rw [decide_eq_false (fun h => h1 h.2)]
      have d0 : decide ((0 : Int) ≤ n) = true := decide_eq_true h0
      have d1 : decide (n ≤ 2147483647) = false := decide_eq_false h1
      go_enter Try.func20, Try.ntmps20
      go_wp2_with fail
      all_goals (go_ret; exact ⟨rfl, rfl⟩)
  · rw [decide_eq_false (fun h => h0 h.1)]
    have d0 : decide ((0 : Int) ≤ n) = false := decide_eq_false h0
    go_enter Try.func20, Try.ntmps20
    go_wp2_with fail
    all_goals (go_ret; exact ⟨rfl, rfl⟩)
end Go.Proofs.Ytmdhioifdnaajaa
