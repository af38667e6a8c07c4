/-
  The example: a record that lasts.
-/
import Derived.Test.YtmahkgkhnpffeaaJrAw
namespace Go.Proofs.Ytmahkgkhnpffeaa
open Go.RowKit
set_option maxRecDepth 100000 in
set_option maxHeartbeats 1000000 in
theorem awake6_any (w : World) : Calls Try.prog 6 #[] w fun e w' => e = .returned (.bool true) ∧ Below w.heap.size w w' := by
  have HNEW : Hid (Calls Try.prog 9 #[.int .i64 6] w fun e w' => e = .returned (.pointer (some ⟨w.heap.size + 2, 0, none⟩)) ∧ IsDisk w' (w.heap.size + 2) w.heap.size (w.heap.size + 1) Mt.aw0 ∧ Below w.heap.size w w') := Lib.hid (new_any 6 w)
  have HND := Lib.hid (fun u => need_yes 111 u (by omega))
  go_enter Try.func6, Try.ntmps6
  go_wp2_with fail
  refine (HNEW.out).mono ?_
  rintro e w1 ⟨rfl, hd, hb⟩
  generalize hB : w.heap.size + 2 = B at *
  generalize hbm : w.heap.size + 1 = bm at *
  have HBN := Lib.hid (And.intro hB hbm)
  have HD1 := Lib.hid hd
  have HB1 := Lib.hid hb
  clear hB hbm hd hb HNEW
  have HOP := Lib.hid (open_on HD1.out (by decide +kernel) (by decide +kernel))
  go_wp2_with fail
  refine (HOP.out).mono ?_
  rintro e w2 ⟨h1, -, ho⟩
  obtain ⟨J, x, j', hJ, rfl, hx, hj, hjl⟩ := h1 Mt.aw1_ok
  obtain rfl := hjl
  have HJ := Lib.hid hj
  have HJL := Lib.hid (show w.heap.size ≤ J by have := HB1.out.size; omega)
  have hbel : Below w.heap.size w w2 := HB1.out.trans (ho.toBelow (by intro k hk; simp at hk; have := HBN.out; omega) HB1.out.size)
  have HB2 := Lib.hid hbel
  rw [Mt.aw0_none] at hx
  obtain ⟨a0, c0, rfl, -, -⟩ := hx
  have HAP := Lib.hid (append_any6 hj [97] (by have := Mt.aw1_in.1; show Mt.aw1.2.1.gen < _; omega) (by have := Mt.aw1_in.2; show Mt.aw1.2.1.count ≤ Mt.aw1.2.1.used; omega) (by simp))
  clear h1 ho hj hbel HOP hJ
  go_wp2_with fail
  refine (HAP.out).mono ?_
  rintro e w3 ⟨rfl, hj, ho⟩
  rw [show (Mt.appendJ (Mt.openJ Mt.aw0).1 (Mt.openJ Mt.aw0).2.1 [97]).2.2 = 0 from Mt.aw2_ok]
  have HJ3 := Lib.hid hj
  have HB3 := Lib.hid (HB2.out.trans (ho.toBelow (by intro k hk; simp at hk; have := HBN.out; have := HJL.out; omega) HB2.out.size))
  have HGE := Lib.hid (gen_any hj.jn hj.gen)
  have HLE := Lib.hid (left_any hj)
  rw [show (Mt.appendJ (Mt.openJ Mt.aw0).1 (Mt.openJ Mt.aw0).2.1 [97]).2.1.gen = 1 from Mt.aw2_in.1] at HGE
  rw [show (Mt.appendJ (Mt.openJ Mt.aw0).1 (Mt.openJ Mt.aw0).2.1 [97]).2.1.left (Mt.appendJ (Mt.openJ Mt.aw0).1 (Mt.openJ Mt.aw0).2.1 [97]).1 = 1 from Mt.aw2_in.2] at HLE
  clear hj ho HAP
  go_wp2_with fail
  refine (HGE.out).mono ?_
  rintro e w4 ⟨rfl, rfl⟩
  go_wp2_with fail
  refine (HLE.out).mono ?_
  rintro e w4 ⟨rfl, hb⟩
  have hj4 := HJ3.out.below hb
  have HB4 := Lib.hid (HB3.out.trans (hb.mono HB3.out.size))
  have HCR := Lib.hid (crash_any hj4.dk 0 (-1) 0 (by omega) (by omega) (by omega))
  clear hb hj4
  go_wp2_with fail
  refine (HCR.out).mono ?_
  rintro e w5 ⟨rfl, hd, ho⟩
  have HB5 := Lib.hid (HB4.out.trans (ho.toBelow (by intro k hk; simp at hk; have := HBN.out; omega) HB4.out.size))
  have HOP := Lib.hid (open_on hd Mt.aw3_in.1 Mt.aw3_in.2)
  clear hd ho HCR
  go_wp2_with fail
  refine (HOP.out).mono ?_
  rintro e w6 ⟨h1, -, ho⟩
  obtain ⟨J2, x2, -, -, rfl, hx2, -, -⟩ := h1 Mt.aw3_ok
  have HB6 := Lib.hid (HB5.out.trans (ho.toBelow (by intro k hk; simp at hk; have := HBN.out; omega) HB5.out.size))
  have hx3 : IsTs w6 x2 [[97]] := by rw [← Mt.aw3_recs]; exact hx2
  obtain ⟨a2, c2, rfl, HX2⟩ := hx3.open
  obtain ⟨b3, o3, rfl, -, hcell⟩ := HX2.out 0 (by decide)
  have hcell' : w6.cell? ⟨b3, o3, none⟩ = some (.string ⟨#[97]⟩) := hcell
  clear h1 ho HOP hx2 hx3 HX2 hcell
  go_wp2_with fail
  refine (HND.out _).mono ?_
  rintro e w7 ⟨rfl, rfl⟩
  have hc2 : ((Mt.cellsN 111 : Nat) : Int) = 2 := by decide
  rw [hc2]
  go_wp2_with fail
  go_ret
  exact ⟨rfl, HB6.out⟩
end Go.Proofs.Ytmahkgkhnpffeaa

/-
  What Open leaves behind, in full.
-/
namespace Go.Proofs.Ytmahkgkhnpffeaa
open Go.RowKit
theorem LaidJ.eq {bs : List (List UInt8)} {j' c : Mt.Jn} (h : LaidJ bs j' c) : j' = c := by
  exact h
end Go.Proofs.Ytmahkgkhnpffeaa
