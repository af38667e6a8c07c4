/-
  The program's disk and the document's, side by side: Write.
-/
import Derived.Test.YtlknfgomagmpcaaDrJ
namespace Go.Proofs.Ytlknfgomagmpcaa
open Go.RowKit Go.Maps

section
variable {base : Nat} {w u x : World} {B bl bm : Nat} {g : Rg} {t : Nat} {d d' : Mt.Dk}

set_option maxHeartbeats 4000000 in
set_option maxRecDepth 100000 in
theorem do_write (h : Both base w B bl bm g t d) (ht : t < 1000) (D I N : Int) (S : ByteArray) (K : Nat) (T A : Int) (z : Int) (hz : D.tmod 11 = z) (hp1 : (z == 1) = false) (hn1 : (z == -1) = false) (hp2 : (z == 2) = false) (hn2 : (z == -2) = false) (hp3 : (z == 3) = false) (hn3 : (z == -3) = false) (hp4 : (z == 4) = false) (hn4 : (z == -4) = false) (hp5 : (z == 5) = false) (hn5 : (z == -5) = false) (hp6 : (z == 6) = false) (hn6 : (z == -6) = false) (hp7 : (z == 7) = false) (hn7 : (z == -7) = false) (hp8 : (z == 8) = false) (hn8 : (z == -8) = false) :
    Calls Try.prog 13 #[.pointer (some ⟨B, 0, none⟩), .pointer (some ⟨g.R, 0, none⟩), .agg #[.int .i64 D, .int .i64 I, .int .i64 N, .string S, .int .u64 (K : Int), .int .i64 T, .int .i64 A]] w (DoPost base w B bl bm g t) := by
  have HA := Lib.hid (h.alloc (.cells #[.int .i64 D, .int .i64 I, .int .i64 N, .string S, .int .u64 (K : Int), .int .i64 T, .int .i64 A] 32))
  have HB := Lib.hid ((Below.refl base w).alloc h.size (.cells #[.int .i64 D, .int .i64 I, .int .i64 N, .string S, .int .u64 (K : Int), .int .i64 T, .int .i64 A] 32))
  have HACT : Hid (∀ u, OnlyS [B, bl, bm] (w.alloc (.cells #[.int .i64 D, .int .i64 I, .int .i64 N, .string S, .int .u64 (K : Int), .int .i64 T, .int .i64 A] 32)) u → u.heap[w.heap.size]? = some (.cells #[.int .i64 D, .int .i64 I, .int .i64 N, .string S, .int .u64 (K : Int), .int .i64 T, .int .i64 A] 32 (0, 0))) := Lib.hid (act_kept h (.cells #[.int .i64 D, .int .i64 I, .int .i64 N, .string S, .int .u64 (K : Int), .int .i64 T, .int .i64 A] 32))
  have HP := Lib.hid (h.two.toP (.cells #[.int .i64 D, .int .i64 I, .int .i64 N, .string S, .int .u64 (K : Int), .int .i64 T, .int .i64 A] 32))
  have HCELL : Hid (∀ u : World, u.heap[w.heap.size]? = some (.cells #[.int .i64 D, .int .i64 I, .int .i64 N, .string S, .int .u64 (K : Int), .int .i64 T, .int .i64 A] 32 (0, 0)) → u.cell? ⟨w.heap.size, 1, none⟩ = some (.int .i64 I) ∧ u.cell? ⟨w.heap.size, 3, none⟩ = some (.string S)) := Lib.hid (fun u hu => ⟨by rw [cell_of_row _ _ _ _ _ _ hu]; rfl, by rw [cell_of_row _ _ _ _ _ _ hu]; rfl⟩)
  have HNE : Hid (w.heap.size ≠ g.R ∧ w.heap.size ≠ g.bl ∧ w.heap.size ≠ g.bw) := Lib.hid (by
    obtain ⟨_, _, _, _, _, hr, _⟩ := h.two
    have h1 := hr.ltR
    have h2 := hr.size
    have h3 := h.lo
    exact ⟨by omega, by omega, by omega⟩)
  have HSA := Lib.hid (sector_any S)
  have HBS := Lib.hid h.size
  clear h
  go_enter Try.func13, Try.ntmps13
  go_upto_region 2 with fail
  have p13 := HCELL.out _ (HACT.out _ (OnlyS.refl _ _))
  have p1 := p13.1
  have p3 := p13.2
  clear p13
  go_region_held3 (fun w' => w'.cell? ⟨w.heap.size, 1, none⟩ = some (.int .i64 I) ∧ w'.cell? ⟨w.heap.size, 3, none⟩ = some (.string S))
    (first
      | go_keep
      | exact ⟨q1, q3⟩)
    (first
      | (go_at_call 22; refine (HSA.out _).mono ?_; rintro e w2 ⟨rfl, hb⟩; have HO2 := Lib.hid ((OnlyS.refl [B, bl, bm] _).drew.then hb); have HD2 := Lib.hid (HA.out.drew.below hb); have HG2 := Lib.hid (HP.out.drew.below hb); have HB2 := Lib.hid (HB.out.drew.trans (hb.mono HA.out.drew.size)); have q := HCELL.out _ (HACT.out _ HO2.out); have q1 := q.1; have q3 := q.2; clear hb q)
      | (go_at_call 21; refine (write_any HD2.out.one I (secQ S)).mono ?_; rintro e w3 ⟨rfl, hd, ho⟩; have HO3 := Lib.hid (HO2.out.trans ho); have HY3 := Lib.hid hd; have HG3 := Lib.hid (HG2.out.only ho HD2.out.lt HD2.out.ap); have HB3 := Lib.hid (HB2.out.trans (HD2.out.first ho).2); have q := HCELL.out _ (HACT.out _ HO3.out); have q1 := q.1; have q3 := q.2; clear hd ho q)
      | (go_at_call 22; refine (HSA.out _).mono ?_; rintro e w4 ⟨rfl, hb⟩; have HY4 := Lib.hid (HY3.out.below hb); have HO4 := Lib.hid (HO3.out.then hb); have HG4 := Lib.hid (HG3.out.below hb); have HB4 := Lib.hid (HB3.out.trans (hb.mono (Nat.le_trans HBS.out HB3.out.size))); have q := HCELL.out _ (HACT.out _ HO4.out); have q1 := q.1; have q3 := q.2; clear hb q)
      | (go_at_call 47; refine (ewrite_any HG4.out ht I (secQ S)).mono ?_; rintro e w5 ⟨rfl, hd, hf⟩; have HZ5 := Lib.hid (HD2.out.second HG4.out.size HY4.out (hf.unP HD2.out.pr) (hd.unP HD2.out.pr) (Mt.calm_write HD2.out.calm I (secQ S).data.toList)); have q := HCELL.out _ ((hf.block _ (.inr rfl) (lt_of_block (HACT.out _ HO4.out)) HNE.out.1 HNE.out.2.1 HNE.out.2.2).trans (HACT.out _ HO4.out)); have q1 := q.1; have q3 := q.2; clear hd hf q))
  go_wp2_with fail
  go_ret
  exact ⟨by simp, ⟨_, HZ5.out.1⟩, HB4.out.trans HZ5.out.2⟩
end
end Go.Proofs.Ytlknfgomagmpcaa
