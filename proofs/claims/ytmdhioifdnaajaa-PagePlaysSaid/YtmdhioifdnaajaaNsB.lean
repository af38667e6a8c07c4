/-
  nest.Copy of a list whose elements have none beneath: what is copied, and where such a one keeps its list.
-/
import Derived.Test.YtmdhioifdnaajaaNsA
import Derived.Test.YtmdhioifdnaajaaTvF
import Derived.Laws.ResultCell
set_option linter.unusedVariables false
set_option linter.unusedSimpArgs false
namespace Go.Proofs.Ytmdhioifdnaajaa
open Go.RowKit Go.Shelf

theorem box3N {w : World} {b : Nat} {v0 v1 v2 : Value} {T : TypeId} (h : w.heap[b]? = some (.cells #[v0, v1, v2] T)) :
    w.cell? ⟨b, 0, none⟩ = some v0 ∧ w.cell? ⟨b, 1, none⟩ = some v1 ∧ w.cell? ⟨b, 2, none⟩ = some v2 :=
  ⟨by rw [cell_of_row _ _ _ _ _ _ h]; rfl, by rw [cell_of_row _ _ _ _ _ _ h]; rfl, by rw [cell_of_row _ _ _ _ _ _ h]; rfl⟩
theorem box3FN {w : World} {b : Nat} {v0 v1 v2 : Value} {T : TypeId} (h : w.heap[b]? = some (.cells #[v0, v1, v2] T)) :
    (w.cell? ⟨b, 0, none⟩ = some v0 ∧ w.cell? ⟨b, 1, none⟩ = some v1 ∧ w.cell? ⟨b, 2, none⟩ = some v2) ∧ (w.frozen? ⟨b, 0, none⟩ = false ∧ w.frozen? ⟨b, 1, none⟩ = false ∧ w.frozen? ⟨b, 2, none⟩ = false) :=
  ⟨box3N h, frozen_of_row _ _ _ _ _ h, frozen_of_row _ _ _ _ _ h, frozen_of_row _ _ _ _ _ h⟩
theorem box4N {w : World} {b : Nat} {v0 v1 v2 v3 : Value} {T : TypeId} (h : w.heap[b]? = some (.cells #[v0, v1, v2, v3] T)) :
    w.cell? ⟨b, 0, none⟩ = some v0 ∧ w.cell? ⟨b, 1, none⟩ = some v1 ∧ w.cell? ⟨b, 2, none⟩ = some v2 ∧ w.cell? ⟨b, 3, none⟩ = some v3 :=
  ⟨by rw [cell_of_row _ _ _ _ _ _ h]; rfl, by rw [cell_of_row _ _ _ _ _ _ h]; rfl, by rw [cell_of_row _ _ _ _ _ _ h]; rfl, by rw [cell_of_row _ _ _ _ _ _ h]; rfl⟩
theorem load3N {T : TypeId} {fs : _} {w : World} {b : Nat} {v0 v1 v2 : Value} (q0 : w.cell? ⟨b, 0, none⟩ = some v0) (q1 : w.cell? ⟨b, 1, none⟩ = some v1) (q2 : w.cell? ⟨b, 2, none⟩ = some v2)
    (hu : Try.prog.underlying T = some (.struct fs)) (hi : (Try.prog.info? T).map (·.size) = some 3) : (loadVar T ⟨b, 0, none⟩).run Try.prog w = .ok (.agg #[v0, v1, v2]) w :=
  run_loadVar_cells w T ⟨b, 0, none⟩ #[v0, v1, v2] (.struct fs) (fun j v hv => by
    rw [add_off, Nat.zero_add]
    match j, hv with
    | 0, hv => obtain rfl : v0 = v := by simpa using hv
               exact q0
    | 1, hv => obtain rfl : v1 = v := by simpa using hv
               exact q1
    | 2, hv => obtain rfl : v2 = v := by simpa using hv
               exact q2
    | j + 3, hv => simp at hv) hu rfl hi
theorem post_cellN {P : Program} {fn : Func} {R : Ending → World → Prop} {a : Act} {w : World} {p : Tmp} {ty : TypeId} (h : fn.results = #[.cell p ty]) (g : Nat) (v : Value)
    (hd : a.defers = []) (hp : a.tmps.getD p undef = .pointer (some ⟨g, 0, none⟩)) (hl : (loadVar ty ⟨g, 0, none⟩).run P w = .ok v w) (hR : R (.returned v) w) : bodyPost P fn R .ret a w := by
  refine bodyPost_ret ?_ hd hR
  have hp' : a.tmps[p]?.getD undef = .pointer (some ⟨g, 0, none⟩) := by simpa using hp
  simp [results, h, hp', asAddr, hl]
theorem set3N {w : World} {b : Nat} {v0 v1 v2 : Value} {T : TypeId} (h : w.heap[b]? = some (.cells #[v0, v1, v2] T)) (u0 u1 u2 : Value) :
    (((w.setCell ⟨b, 0, none⟩ u0).setCell ⟨b, 1, none⟩ u1).setCell ⟨b, 2, none⟩ u2).heap[b]? = some (.cells #[u0, u1, u2] T) := by
  have h1 := heap_setCell_same w b 0 _ T u0 h
  have h2 := heap_setCell_same _ b 1 _ T u1 h1
  have h3 := heap_setCell_same _ b 2 _ T u2 h2
  rw [h3]; rfl
theorem only3N {w : World} {b : Nat} (u0 u1 u2 : Value) : OnlyS [b] w (((w.setCell ⟨b, 0, none⟩ u0).setCell ⟨b, 1, none⟩ u1).setCell ⟨b, 2, none⟩ u2) := (((OnlyS.refl [b] w).setCell (by simp) _).setCell (by simp) _).setCell (by simp) _
theorem Try.szNode : (Try.prog.info? 62).map (·.size) = some 3 := by kernel_rfl
set_option maxRecDepth 100000 in
/-- An element as it is. -/
theorem same7_any (t : Int) (d k : Value) (hd : ∃ s, d = .string s) (hk : ∃ a n c, k = .slice a n c) (w : World) : Calls Try.prog 29 #[.agg #[.int .i64 t, d, k]] w fun e w' => e = .returned (.agg #[.int .i64 t, d, k]) ∧ Below w.heap.size w w' := by
  obtain ⟨s, rfl⟩ := hd
  obtain ⟨ka, kn, kc, rfl⟩ := hk
  obtain ⟨w1, hw1⟩ : ∃ u, w.alloc (.cells #[.int .i64 t, .string s, .slice ka kn kc] 62) = u := ⟨_, rfl⟩
  have hA : Below w.heap.size w w1 := by rw [← hw1]; exact (Below.refl _ w).alloc (Nat.le_refl _) _
  have hx : w1.heap[w.heap.size]? = some (.cells #[.int .i64 t, .string s, .slice ka kn kc] 62) := by rw [← hw1]; exact heap_alloc_new w _
  obtain ⟨w2, hw2⟩ : ∃ u, w1.alloc (.cells #[.int .i64 0, .string ⟨#[]⟩, .slice none 0 0] 62) = u := ⟨_, rfl⟩
  have hA2 : Below w1.heap.size w1 w2 := by rw [← hw2]; exact (Below.refl _ w1).alloc (Nat.le_refl _) _
  have hx2 : w2.heap[w1.heap.size]? = some (.cells #[.int .i64 0, .string ⟨#[]⟩, .slice none 0 0] 62) := by rw [← hw2]; exact heap_alloc_new w1 _
  have hx1 := (hA2.block _ (lt_of_block hx)).trans hx
  have hr := set3N hx2 (.int .i64 t) (.string s) (.slice ka kn kc)
  have ho := only3N (w := w2) (b := w1.heap.size) (.int .i64 t) (.string s) (.slice ka kn kc)
  have hB : Below w.heap.size w (((w2.setCell ⟨w1.heap.size, 0, none⟩ (.int .i64 t)).setCell ⟨w1.heap.size, 1, none⟩ (.string s)).setCell ⟨w1.heap.size, 2, none⟩ (.slice ka kn kc)) := (hA.trans (hA2.mono hA.size)).trans (ho.toBelow (fun k hk => by have := hA.size; simp at hk; omega) (Nat.le_trans hA.size hA2.size))
  obtain ⟨n0, n1, n2⟩ := box3N hr
  have HF := Lib.hid (And.intro (load3N n0 n1 n2 Try.underlying62 Try.szNode) hB)
  obtain ⟨p0, p1, p2⟩ := box3N hx1
  obtain ⟨⟨z0, z1, z2⟩, f0, f1, f2⟩ := box3FN hx2
  clear hA hx hA2 hx2 hx1 hr ho hB n0 n1 n2
  go_enter Try.func29, Try.ntmps29
  go_wp2_with fail
  exact post_cellN rfl _ _ rfl rfl HF.out.1 ⟨rfl, HF.out.2⟩
theorem kidsOf7_any (b off : Nat) (w : World) : Calls Try.prog 30 #[.pointer (some ⟨b, off, none⟩)] w fun e w' => e = .returned (.pointer (some ⟨b, off + 2, none⟩)) ∧ w' = w := by
  go_enter Try.func30, Try.ntmps30
  go_wp2_with fail
  all_goals (go_ret; exact ⟨rfl, rfl⟩)
set_option maxRecDepth 100000 in
/-- Of no list none. -/
theorem enterNil_any (x : Value) (a : Option Addr) (c : Nat) (w : World) : Calls Try.prog 34 #[x, .slice a 0 c] w fun e w' => e = .returned (.slice none 0 0) ∧ w' = w := by
  go_enter Try.func34, Try.ntmps34
  go_wp2_with fail
  all_goals (go_ret; exact ⟨rfl, rfl⟩)
end Go.Proofs.Ytmdhioifdnaajaa
