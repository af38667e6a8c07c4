/-
  What the document's round comes to.
-/
import Derived.Test.YtpdionmecflibaaDoorRot
import Derived.Test.YtpdionmecflibaaDoorRound
import Derived.StillTailTactics
namespace Go.Proofs.YtpdionmecflibaaDoor
open Go.RowKit

/-- Eight words in a slice. -/
def Has8 (w : World) (g : Nat) (V : Mt.W8) : Prop := ∀ i, i < 8 → w.cell? ⟨g, i, none⟩ = some (.int .u32 ((V.list.getD i 0 : Nat) : Int))

set_option maxHeartbeats 800000 in
set_option maxRecDepth 100000 in
theorem rround_any (v : Mt.W8) (k s g cap : Nat) (w : World) (hv : v.Ok) (h8 : Has8 w g v) :
    Calls Tryd.prog 24 #[.slice (some ⟨g, 0, none⟩) 8 cap, .int .u32 k, .int .u32 s] w fun e w' => ∃ g', e = .returned (.slice (some ⟨g', 0, none⟩) 8 8) ∧ w.heap.size ≤ g' ∧ w'.heap[g']? = some (.cells (Mt.rnd v (k + s)).cells 53 (0, 0)) ∧ Below w.heap.size w w' := by
  obtain ⟨a, b, c, d, e, f, gg, j⟩ := v
  obtain ⟨h1, h2, h3, h4, h5, h6, h7, h8'⟩ := hv
  dsimp only at h1 h2 h3 h4 h5 h6 h7 h8'
  have n1 := u32_and_nat e f h5 h6
  have n2 : (4294967295 - (e : Int)) % 4294967296 = ((4294967295 - e : Nat) : Int) := by omega
  have n3 := u32_and_nat (4294967295 - e) gg (by omega) h7
  have n4 := u32_or_nat (e &&& f) ((4294967295 - e) &&& gg) (and_lt _ _ h5) (and_lt _ _ (by omega))
  rw [ch_or e f gg h5] at n4
  have m1 := u32_and_nat a b h1 h2
  have m2 := u32_and_nat a c h1 h3
  have m3 := u32_or_nat (a &&& b) (a &&& c) (and_lt _ _ h1) (and_lt _ _ h1)
  have m4 := u32_and_nat b c h2 h3
  have m5 := u32_or_nat (a &&& b ||| a &&& c) (b &&& c) (or_lt _ _ (and_lt _ _ h1) (and_lt _ _ h1)) (and_lt _ _ h2)
  rw [mj_or] at m5
  have z1 := u32_xor_nat (Mt.rr 6 e) (Mt.rr 11 e) (Mt.rr_lt _ _ h5) (Mt.rr_lt _ _ h5)
  have z2 := u32_xor_nat (Mt.rr 6 e ^^^ Mt.rr 11 e) (Mt.rr 25 e) (xor_lt _ _ (Mt.rr_lt _ _ h5) (Mt.rr_lt _ _ h5)) (Mt.rr_lt _ _ h5)
  have u1 := u32_xor_nat (Mt.rr 2 a) (Mt.rr 13 a) (Mt.rr_lt _ _ h1) (Mt.rr_lt _ _ h1)
  have u2 := u32_xor_nat (Mt.rr 2 a ^^^ Mt.rr 13 a) (Mt.rr 22 a) (xor_lt _ _ (Mt.rr_lt _ _ h1) (Mt.rr_lt _ _ h1)) (Mt.rr_lt _ _ h1)
  have R6 := Lib.hid (fun u => rturn_q e 6 6 _ u rfl rfl h5 (by decide) (by decide))
  have R11 := Lib.hid (fun u => rturn_q e 11 11 _ u rfl rfl h5 (by decide) (by decide))
  have R25 := Lib.hid (fun u => rturn_q e 25 25 _ u rfl rfl h5 (by decide) (by decide))
  have R2 := Lib.hid (fun u => rturn_q a 2 2 _ u rfl rfl h1 (by decide) (by decide))
  have R13 := Lib.hid (fun u => rturn_q a 13 13 _ u rfl rfl h1 (by decide) (by decide))
  have R22 := Lib.hid (fun u => rturn_q a 22 22 _ u rfl rfl h1 (by decide) (by decide))
  clear h1 h2 h3 h4 h5 h6 h7 h8'
  have HLOW := Lib.hid (show Mt.low ⟨a, b, c, d, e, f, gg, j⟩ (k + s) = (j + (Mt.rr 6 e ^^^ Mt.rr 11 e ^^^ Mt.rr 25 e) + ((e &&& f) ^^^ ((4294967295 - e) &&& gg)) + (k + s)) % 4294967296 from rfl)
  have HHIGH := Lib.hid (show Mt.high ⟨a, b, c, d, e, f, gg, j⟩ = ((Mt.rr 2 a ^^^ Mt.rr 13 a ^^^ Mt.rr 22 a) + (a &&& b ^^^ a &&& c ^^^ b &&& c)) % 4294967296 from rfl)
  have HRES := Lib.hid (show (Mt.rnd ⟨a, b, c, d, e, f, gg, j⟩ (k + s)).cells = #[.int .u32 (((Mt.low ⟨a, b, c, d, e, f, gg, j⟩ (k + s) + Mt.high ⟨a, b, c, d, e, f, gg, j⟩) % 4294967296 : Nat) : Int), .int .u32 a, .int .u32 b, .int .u32 c, .int .u32 (((d + Mt.low ⟨a, b, c, d, e, f, gg, j⟩ (k + s)) % 4294967296 : Nat) : Int), .int .u32 e, .int .u32 f, .int .u32 gg] from rfl)
  have g0 : w.cell? ⟨g, 0, none⟩ = some (.int .u32 (a : Int)) := h8 0 (by decide)
  have g1 : w.cell? ⟨g, 1, none⟩ = some (.int .u32 (b : Int)) := h8 1 (by decide)
  have g2 : w.cell? ⟨g, 2, none⟩ = some (.int .u32 (c : Int)) := h8 2 (by decide)
  have g3 : w.cell? ⟨g, 3, none⟩ = some (.int .u32 (d : Int)) := h8 3 (by decide)
  have g4 : w.cell? ⟨g, 4, none⟩ = some (.int .u32 (e : Int)) := h8 4 (by decide)
  have g5 : w.cell? ⟨g, 5, none⟩ = some (.int .u32 (f : Int)) := h8 5 (by decide)
  have g6 : w.cell? ⟨g, 6, none⟩ = some (.int .u32 (gg : Int)) := h8 6 (by decide)
  have g7 : w.cell? ⟨g, 7, none⟩ = some (.int .u32 (j : Int)) := h8 7 (by decide)
  clear h8
  generalize Mt.rr 6 e ^^^ Mt.rr 11 e ^^^ Mt.rr 25 e = z at z2 HLOW
  generalize Mt.rr 6 e ^^^ Mt.rr 11 e = y at z1 z2
  generalize Mt.rr 6 e = y6 at z1 R6
  generalize Mt.rr 11 e = y11 at z1 R11
  generalize Mt.rr 25 e = y25 at z2 R25
  generalize Mt.rr 2 a ^^^ Mt.rr 13 a ^^^ Mt.rr 22 a = x at u2 HHIGH
  generalize Mt.rr 2 a ^^^ Mt.rr 13 a = y' at u1 u2
  generalize Mt.rr 2 a = y2 at u1 R2
  generalize Mt.rr 13 a = y13 at u1 R13
  generalize Mt.rr 22 a = y22 at u2 R22
  generalize (e &&& f) ^^^ ((4294967295 - e) &&& gg) = cc at n4 HLOW
  generalize (4294967295 - e) &&& gg = c3 at n3 n4
  generalize 4294967295 - e = c2 at n2 n3
  generalize e &&& f = c1 at n1 n4
  generalize a &&& b ^^^ a &&& c ^^^ b &&& c = mm at m5 HHIGH
  generalize a &&& b ||| a &&& c = k3 at m3 m5
  generalize a &&& b = k1 at m1 m3
  generalize a &&& c = k2 at m2 m3
  generalize b &&& c = k4 at m4 m5
  generalize Mt.low ⟨a, b, c, d, e, f, gg, j⟩ (k + s) = lo at HLOW HRES
  generalize Mt.high ⟨a, b, c, d, e, f, gg, j⟩ = hi at HHIGH HRES
  go_enter Tryd.func24, Tryd.ntmps24
  go_wp2_with fail
  go_quiet ((go_at_call 23; first | (with_reducible exact R6.out _ _) | (with_reducible exact R11.out _ _) | (with_reducible exact R25.out _ _)))
  refine wp_world (fun u => Below w.heap.size w u ∧ u.cell? ⟨g, 0, none⟩ = some (.int .u32 (a : Int)) ∧ u.cell? ⟨g, 1, none⟩ = some (.int .u32 (b : Int)) ∧ u.cell? ⟨g, 2, none⟩ = some (.int .u32 (c : Int)) ∧ u.cell? ⟨g, 3, none⟩ = some (.int .u32 (d : Int)) ∧ u.cell? ⟨g, 4, none⟩ = some (.int .u32 (e : Int)) ∧ u.cell? ⟨g, 5, none⟩ = some (.int .u32 (f : Int)) ∧ u.cell? ⟨g, 6, none⟩ = some (.int .u32 (gg : Int)) ∧ u.cell? ⟨g, 7, none⟩ = some (.int .u32 (j : Int))) ⟨below_drewN' _ (Below.refl _ _), g0, g1, g2, g3, g4, g5, g6, g7⟩ ?_
  clear g0 g1 g2 g3 g4 g5 g6 g7 R6 R11 R25 z1 z2
  rintro v1 ⟨hb1, g0, g1, g2, g3, g4, g5, g6, g7⟩
  have HB1 := Lib.hid hb1
  clear hb1
  go_wp2_with fail
  go_quiet (fail)
  refine wp_world (fun u => Below w.heap.size w u ∧ u.cell? ⟨g, 0, none⟩ = some (.int .u32 (a : Int)) ∧ u.cell? ⟨g, 1, none⟩ = some (.int .u32 (b : Int)) ∧ u.cell? ⟨g, 2, none⟩ = some (.int .u32 (c : Int)) ∧ u.cell? ⟨g, 3, none⟩ = some (.int .u32 (d : Int)) ∧ u.cell? ⟨g, 4, none⟩ = some (.int .u32 (e : Int)) ∧ u.cell? ⟨g, 5, none⟩ = some (.int .u32 (f : Int)) ∧ u.cell? ⟨g, 6, none⟩ = some (.int .u32 (gg : Int)) ∧ u.cell? ⟨g, 7, none⟩ = some (.int .u32 (j : Int))) ⟨below_drewN' _ HB1.out, g0, g1, g2, g3, g4, g5, g6, g7⟩ ?_
  clear g0 g1 g2 g3 g4 g5 g6 g7 HB1
  rintro v2 ⟨hb1, g0, g1, g2, g3, g4, g5, g6, g7⟩
  have HB2 := Lib.hid hb1
  clear hb1
  go_wp2_with fail
  go_quiet ((go_at_call 23; first | (with_reducible exact R2.out _ _) | (with_reducible exact R13.out _ _) | (with_reducible exact R22.out _ _)))
  refine wp_world (fun u => Below w.heap.size w u ∧ u.cell? ⟨g, 0, none⟩ = some (.int .u32 (a : Int)) ∧ u.cell? ⟨g, 1, none⟩ = some (.int .u32 (b : Int)) ∧ u.cell? ⟨g, 2, none⟩ = some (.int .u32 (c : Int)) ∧ u.cell? ⟨g, 3, none⟩ = some (.int .u32 (d : Int)) ∧ u.cell? ⟨g, 4, none⟩ = some (.int .u32 (e : Int)) ∧ u.cell? ⟨g, 5, none⟩ = some (.int .u32 (f : Int)) ∧ u.cell? ⟨g, 6, none⟩ = some (.int .u32 (gg : Int)) ∧ u.cell? ⟨g, 7, none⟩ = some (.int .u32 (j : Int))) ⟨below_drewN' _ HB2.out, g0, g1, g2, g3, g4, g5, g6, g7⟩ ?_
  clear g0 g1 g2 g3 g4 g5 g6 g7 HB2
  rintro v3 ⟨hb1, g0, g1, g2, g3, g4, g5, g6, g7⟩
  have HB3 := Lib.hid hb1
  clear hb1
  go_wp2_with fail
  go_quiet (fail)
  refine wp_world (fun u => Below w.heap.size w u ∧ u.cell? ⟨g, 0, none⟩ = some (.int .u32 (a : Int)) ∧ u.cell? ⟨g, 1, none⟩ = some (.int .u32 (b : Int)) ∧ u.cell? ⟨g, 2, none⟩ = some (.int .u32 (c : Int)) ∧ u.cell? ⟨g, 3, none⟩ = some (.int .u32 (d : Int)) ∧ u.cell? ⟨g, 4, none⟩ = some (.int .u32 (e : Int)) ∧ u.cell? ⟨g, 5, none⟩ = some (.int .u32 (f : Int)) ∧ u.cell? ⟨g, 6, none⟩ = some (.int .u32 (gg : Int)) ∧ u.cell? ⟨g, 7, none⟩ = some (.int .u32 (j : Int))) ⟨below_drewN' _ HB3.out, g0, g1, g2, g3, g4, g5, g6, g7⟩ ?_
  clear g0 g1 g2 g3 g4 g5 g6 g7 HB3
  rintro v4 ⟨hb1, g0, g1, g2, g3, g4, g5, g6, g7⟩
  have HB4 := Lib.hid hb1
  clear hb1
  go_wp2_with fail
  refine wp_region_still_tail 28 (by kernel_rfl) (by kernel_rfl) ?_
  simp only [List.take_succ_cons, List.take_zero, List.drop_succ_cons, List.drop_zero]
  repeat still_step
  refine wpStill_nil ?_
  change wpList _ _ _ _ _ v4.drew
  go_wp2_with fail
  go_ret
  refine ⟨v4.heap.size, rfl, HB4.out.size, ?_, (HB4.out.alloc HB4.out.size _).drew⟩
  have e1 : ((((j : Int) + z + cc + k + s) % 4294967296 + x) % 4294967296 + mm) % 4294967296 = (((lo + hi) % 4294967296 : Nat) : Int) := by
    have h1 := HLOW.out
    have h2 := HHIGH.out
    omega
  have e2 : ((d : Int) + ((j : Int) + z + cc + k + s) % 4294967296) % 4294967296 = (((d + lo) % 4294967296 : Nat) : Int) := by
    have h1 := HLOW.out
    omega
  rw [heap_drew, heap_alloc_new, HRES.out, e1, e2]

end Go.Proofs.YtpdionmecflibaaDoor
