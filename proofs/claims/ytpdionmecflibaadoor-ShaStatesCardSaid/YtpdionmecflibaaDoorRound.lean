/-
  What sha.round comes to.
-/
import Derived.Test.YtpdionmecflibaaDoorRot
import Derived.Deep.QuietTactic
import Derived.BigQuiet
import Derived.Laws.Rows
import Derived.Deep.WholeRow
import Derived.Laws.CopyOwn
namespace Go.Proofs.YtpdionmecflibaaDoor
open Go.RowKit

theorem Tryd.sz8 : (Tryd.prog.info? 57).map (·.size) = some 8 := by kernel_rfl
theorem Tryd.sz64 : (Tryd.prog.info? 71).map (·.size) = some 64 := by kernel_rfl

/-- The walk goes on in any world of which so much is known. -/
theorem wp_world {α : Type} {R : α → World → Prop} {a : α} {w : World} (F : World → Prop) (h1 : F w) (h2 : ∀ u, F u → R a u) : R a w := h2 w h1

theorem Mt.ret_agg {a b : Array Value} (h : a = b) : Ending.returned (.agg a) = .returned (.agg b) := by rw [h]
/-- An array as the result, read out of its block. -/
theorem post_row {P : Program} {fn : Func} {R : Ending → World → Prop} {a : Act} {w : World} {p : Tmp} {ty : TypeId} (h : fn.results = #[.cell p ty]) (g : Nat) (t : TypeId) (cs : Array Value) (fr : Nat × Nat) (d : TypeDesc)
    (hd : a.defers = []) (hp : a.tmps.getD p undef = .pointer (some ⟨g, 0, none⟩)) (hg : w.heap[g]? = some (.cells cs t fr)) (hi : (P.info? ty).map (·.size) = some cs.size)
    (hu : P.underlying ty = some d) (hdd : (match d with | .struct _ | .array _ _ => true | _ => false) = true) (hR : R (.returned (.agg cs)) w) : bodyPost P fn R .ret a w :=
  bodyPost_ret (results_cell_row h _ _ g t cs fr d hp hg hu hdd hi) hd hR
theorem below_drewN' {B : Nat} {a w : World} (m : Nat) (h : Below B a w) : Below B a (w.drewN m) := ⟨h.os, h.tape, h.output, h.size, h.block⟩
theorem cell_two_old (w : World) (A B : Obj) (cs : Array Value) (t : TypeId) (h : A = .cells cs t (0, 0)) (i : Nat) (x : Value) (hx : cs[i]? = some x) : ((w.alloc A).alloc B).cell? ⟨w.heap.size, i, none⟩ = some x := by
  subst h
  rw [cell_of_row _ _ i cs t (0, 0) (heap_alloc2_old w _ B), hx]

set_option maxRecDepth 100000 in
theorem round_any (v : Mt.W8) (s : Nat) (w : World) (hv : v.Ok) (hs : s < 4294967296) :
    Calls Tryd.prog 38 #[.agg v.cells, .int .u32 s] w fun e w' => e = .returned (.agg (Mt.rnd v s).cells) ∧ Below w.heap.size w w' := by
  obtain ⟨a, b, c, d, e, f, g, j⟩ := v
  obtain ⟨h1, h2, h3, h4, h5, h6, h7, h8⟩ := hv
  dsimp only at h1 h2 h3 h4 h5 h6 h7 h8
  have n1 := u32_and_nat e f h5 h6
  have n2 := turn_all e h5
  have n3 := u32_and_nat (4294967295 - e) g (by omega) h7
  have n4 := u32_xor_nat (e &&& f) ((4294967295 - e) &&& g) (and_lt _ _ h5) (and_lt _ _ (by omega))
  have m1 := u32_and_nat a b h1 h2
  have m2 := u32_and_nat a c h1 h3
  have m3 := u32_xor_nat (a &&& b) (a &&& c) (and_lt _ _ h1) (and_lt _ _ h1)
  have m4 := u32_and_nat b c h2 h3
  have m5 := u32_xor_nat (a &&& b ^^^ a &&& c) (b &&& c) (xor_lt _ _ (and_lt _ _ h1) (and_lt _ _ h1)) (and_lt _ _ h2)
  have z1 := u32_xor_nat (Mt.rr 6 e) (Mt.rr 11 e) (Mt.rr_lt _ _ h5) (Mt.rr_lt _ _ h5)
  have z2 := u32_xor_nat (Mt.rr 6 e ^^^ Mt.rr 11 e) (Mt.rr 25 e) (xor_lt _ _ (Mt.rr_lt _ _ h5) (Mt.rr_lt _ _ h5)) (Mt.rr_lt _ _ h5)
  have u1 := u32_xor_nat (Mt.rr 2 a) (Mt.rr 13 a) (Mt.rr_lt _ _ h1) (Mt.rr_lt _ _ h1)
  have u2 := u32_xor_nat (Mt.rr 2 a ^^^ Mt.rr 13 a) (Mt.rr 22 a) (xor_lt _ _ (Mt.rr_lt _ _ h1) (Mt.rr_lt _ _ h1)) (Mt.rr_lt _ _ h1)
  have R6 := Lib.hid (fun u => right_q e 6 6 _ u rfl rfl h5 (by decide) (by decide))
  have R11 := Lib.hid (fun u => right_q e 11 11 _ u rfl rfl h5 (by decide) (by decide))
  have R25 := Lib.hid (fun u => right_q e 25 25 _ u rfl rfl h5 (by decide) (by decide))
  have R2 := Lib.hid (fun u => right_q a 2 2 _ u rfl rfl h1 (by decide) (by decide))
  have R13 := Lib.hid (fun u => right_q a 13 13 _ u rfl rfl h1 (by decide) (by decide))
  have R22 := Lib.hid (fun u => right_q a 22 22 _ u rfl rfl h1 (by decide) (by decide))
  clear h1 h2 h3 h4 h5 h6 h7 h8 hs
  have HLOW := Lib.hid (show Mt.low ⟨a, b, c, d, e, f, g, j⟩ s = (j + (Mt.rr 6 e ^^^ Mt.rr 11 e ^^^ Mt.rr 25 e) + ((e &&& f) ^^^ ((4294967295 - e) &&& g)) + s) % 4294967296 from rfl)
  have HHIGH := Lib.hid (show Mt.high ⟨a, b, c, d, e, f, g, j⟩ = ((Mt.rr 2 a ^^^ Mt.rr 13 a ^^^ Mt.rr 22 a) + (a &&& b ^^^ a &&& c ^^^ b &&& c)) % 4294967296 from rfl)
  have HRES := Lib.hid (show (Mt.rnd ⟨a, b, c, d, e, f, g, j⟩ s).cells = #[.int .u32 (((Mt.low ⟨a, b, c, d, e, f, g, j⟩ s + Mt.high ⟨a, b, c, d, e, f, g, j⟩) % 4294967296 : Nat) : Int), .int .u32 a, .int .u32 b, .int .u32 c, .int .u32 (((d + Mt.low ⟨a, b, c, d, e, f, g, j⟩ s) % 4294967296 : Nat) : Int), .int .u32 e, .int .u32 f, .int .u32 g] from rfl)
  have hc0 := fun B => cell_two_old w (.cells (Mt.W8.cells ⟨a, b, c, d, e, f, g, j⟩) 57) B _ _ rfl 0 (.int .u32 (a : Int)) rfl
  have hc1 := fun B => cell_two_old w (.cells (Mt.W8.cells ⟨a, b, c, d, e, f, g, j⟩) 57) B _ _ rfl 1 (.int .u32 (b : Int)) rfl
  have hc2 := fun B => cell_two_old w (.cells (Mt.W8.cells ⟨a, b, c, d, e, f, g, j⟩) 57) B _ _ rfl 2 (.int .u32 (c : Int)) rfl
  have hc3 := fun B => cell_two_old w (.cells (Mt.W8.cells ⟨a, b, c, d, e, f, g, j⟩) 57) B _ _ rfl 3 (.int .u32 (d : Int)) rfl
  have hc4 := fun B => cell_two_old w (.cells (Mt.W8.cells ⟨a, b, c, d, e, f, g, j⟩) 57) B _ _ rfl 4 (.int .u32 (e : Int)) rfl
  have hc5 := fun B => cell_two_old w (.cells (Mt.W8.cells ⟨a, b, c, d, e, f, g, j⟩) 57) B _ _ rfl 5 (.int .u32 (f : Int)) rfl
  have hc6 := fun B => cell_two_old w (.cells (Mt.W8.cells ⟨a, b, c, d, e, f, g, j⟩) 57) B _ _ rfl 6 (.int .u32 (g : Int)) rfl
  have hc7 := fun B => cell_two_old w (.cells (Mt.W8.cells ⟨a, b, c, d, e, f, g, j⟩) 57) B _ _ rfl 7 (.int .u32 (j : Int)) rfl
  have E0 := Lib.hid (show (Mt.W8.cells ⟨a, b, c, d, e, f, g, j⟩)[0]? = some (.int .u32 (a : Int)) from rfl)
  have E1 := Lib.hid (show (Mt.W8.cells ⟨a, b, c, d, e, f, g, j⟩)[1]? = some (.int .u32 (b : Int)) from rfl)
  have E2 := Lib.hid (show (Mt.W8.cells ⟨a, b, c, d, e, f, g, j⟩)[2]? = some (.int .u32 (c : Int)) from rfl)
  have E3 := Lib.hid (show (Mt.W8.cells ⟨a, b, c, d, e, f, g, j⟩)[3]? = some (.int .u32 (d : Int)) from rfl)
  have E4 := Lib.hid (show (Mt.W8.cells ⟨a, b, c, d, e, f, g, j⟩)[4]? = some (.int .u32 (e : Int)) from rfl)
  have E5 := Lib.hid (show (Mt.W8.cells ⟨a, b, c, d, e, f, g, j⟩)[5]? = some (.int .u32 (f : Int)) from rfl)
  have E6 := Lib.hid (show (Mt.W8.cells ⟨a, b, c, d, e, f, g, j⟩)[6]? = some (.int .u32 (g : Int)) from rfl)
  have E7 := Lib.hid (show (Mt.W8.cells ⟨a, b, c, d, e, f, g, j⟩)[7]? = some (.int .u32 (j : Int)) from rfl)
  generalize Mt.W8.cells ⟨a, b, c, d, e, f, g, j⟩ = cs at hc0 hc1 hc2 hc3 hc4 hc5 hc6 hc7 E0 E1 E2 E3 E4 E5 E6 E7 ⊢
  generalize Mt.rr 6 e ^^^ Mt.rr 11 e ^^^ Mt.rr 25 e = z at z2 HLOW
  generalize Mt.rr 6 e ^^^ Mt.rr 11 e = y at z1 z2
  generalize Mt.rr 6 e = y6 at z1 R6
  generalize Mt.rr 11 e = y11 at z1 R11
  generalize Mt.rr 25 e = y25 at z2 R25
  generalize Mt.rr 2 a ^^^ Mt.rr 13 a ^^^ Mt.rr 22 a = x at u2 HHIGH
  generalize Mt.rr 2 a ^^^ Mt.rr 13 a = y' at u1 u2
  generalize Mt.rr 2 a = y2 at u1 R2
  generalize Mt.rr 13 a = y13 at u1 R13
  generalize Mt.rr 22 a = y22 at u2 R22
  generalize (e &&& f) ^^^ ((4294967295 - e) &&& g) = cc at n4 HLOW
  generalize (4294967295 - e) &&& g = c3 at n3 n4
  generalize 4294967295 - e = c2 at n2 n3
  generalize e &&& f = c1 at n1 n4
  generalize a &&& b ^^^ a &&& c ^^^ b &&& c = mm at m5 HHIGH
  generalize a &&& b ^^^ a &&& c = k3 at m3 m5
  generalize a &&& b = k1 at m1 m3
  generalize a &&& c = k2 at m2 m3
  generalize b &&& c = k4 at m4 m5
  generalize Mt.low ⟨a, b, c, d, e, f, g, j⟩ s = lo at HLOW HRES
  generalize Mt.high ⟨a, b, c, d, e, f, g, j⟩ = hi at HHIGH HRES
  go_enter Tryd.func38, Tryd.ntmps38
  go_wp2_with fail
  go_quiet ((go_at_call 46; first | (with_reducible exact R6.out _ _) | (with_reducible exact R11.out _ _) | (with_reducible exact R25.out _ _)))
  go_wp2_with fail
  refine wp_world (fun u => Below w.heap.size w u ∧ (∃ old, u.heap[w.heap.size + 1]? = some (.cells old 57 (0, 0)) ∧ old.size = 8) ∧ u.heap[w.heap.size]? = some (.cells cs 57 (0, 0))) ⟨below_drewN' _ (((Below.refl _ _).alloc (Nat.le_refl _) _).alloc (by simp) _), ⟨_, heap_alloc2_new w _ _, rfl⟩, heap_alloc2_old w _ _⟩ ?_
  rintro u ⟨hb, ⟨old, hold, holds⟩, hbox⟩
  have g0 : u.cell? ⟨w.heap.size, 0, none⟩ = some (.int .u32 (a : Int)) := by rw [cell_of_row _ _ _ _ _ _ hbox]; exact E0.out
  have g1 : u.cell? ⟨w.heap.size, 1, none⟩ = some (.int .u32 (b : Int)) := by rw [cell_of_row _ _ _ _ _ _ hbox]; exact E1.out
  have g2 : u.cell? ⟨w.heap.size, 2, none⟩ = some (.int .u32 (c : Int)) := by rw [cell_of_row _ _ _ _ _ _ hbox]; exact E2.out
  have g3 : u.cell? ⟨w.heap.size, 3, none⟩ = some (.int .u32 (d : Int)) := by rw [cell_of_row _ _ _ _ _ _ hbox]; exact E3.out
  have g4 : u.cell? ⟨w.heap.size, 4, none⟩ = some (.int .u32 (e : Int)) := by rw [cell_of_row _ _ _ _ _ _ hbox]; exact E4.out
  have g5 : u.cell? ⟨w.heap.size, 5, none⟩ = some (.int .u32 (f : Int)) := by rw [cell_of_row _ _ _ _ _ _ hbox]; exact E5.out
  have g6 : u.cell? ⟨w.heap.size, 6, none⟩ = some (.int .u32 (g : Int)) := by rw [cell_of_row _ _ _ _ _ _ hbox]; exact E6.out
  have g7 : u.cell? ⟨w.heap.size, 7, none⟩ = some (.int .u32 (j : Int)) := by rw [cell_of_row _ _ _ _ _ _ hbox]; exact E7.out
  have HB := Lib.hid hb
  have HO := Lib.hid (show ∀ n, (u.drewN n).heap[w.heap.size + 1]? = some (.cells old 57 (0, 0)) from fun _ => hold)
  have HS := Lib.hid holds
  clear hb hold holds hbox hc0 hc1 hc2 hc3 hc4 hc5 hc6 hc7 E0 E1 E2 E3 E4 E5 E6 E7
  go_quiet ((go_at_call 46; first | (with_reducible exact R2.out _ _) | (with_reducible exact R13.out _ _) | (with_reducible exact R22.out _ _)))
  go_wp2_with (refine wpList_store_row rfl 57 (.tmp 4) (.tmp 88) rfl (w.heap.size + 1) ?cells ?hx ?hy 57 old ?hg ?hi ?hs ?h1 ?_)
  case hx => rfl
  case hy => rfl
  case hg => exact HO.out _
  case hi => exact Tryd.sz8
  case hs => exact HS.out
  case h1 => simp [Value.oneCell']
  refine post_row rfl (w.heap.size + 1) 57 ?cs2 (0, 0) _ rfl rfl ?hg ?hi Tryd.underlying57 rfl ?post
  case hg => exact setRow_heap _ _ _ _ _ _ (HO.out _)
  case hi => exact Tryd.sz8
  case post =>
    refine ⟨Mt.ret_agg ?_, below_setRow (below_drewN' _ HB.out) (by omega) _⟩
    rw [HRES.out, HLOW.out, HHIGH.out]
    have e1 : ((j : Int) + z + cc + s + (x + mm)) % 4294967296 = (((j + z + cc + s) % 4294967296 + (x + mm) % 4294967296) % 4294967296 : Nat) := by omega
    have e2 : ((d : Int) + (j + z + cc + s)) % 4294967296 = ((d + (j + z + cc + s) % 4294967296) % 4294967296 : Nat) := by omega
    rw [e1, e2]

end Go.Proofs.YtpdionmecflibaaDoor
