/-
  What the document's Parse and Whole come to.
-/
import Derived.Test.YtcijjblcoelabaaTvMa
import Derived.Test.YtcijjblcoelabaaTvP
import Derived.BigRegion
import Derived.Deep.RegionHeld3
set_option linter.unusedVariables false
set_option linter.unusedSimpArgs false
namespace Go.Proofs.Ytcijjblcoelabaa
open Go.RowKit
theorem alloc_szN (w : World) (o : Obj) : (w.alloc o).heap.size = w.heap.size + 1 := by simp
theorem Mt.sub_all (s : ByteArray) : Mt.sub s 0 s.size = s.data.toList := by
  rw [Mt.sub, List.drop_zero, Nat.sub_zero]; exact List.take_of_length_le (Nat.le_refl s.data.toList.length)
set_option maxRecDepth 100000 in
set_option maxHeartbeats 1000000 in
theorem rParse_any (s : ByteArray) (w : World) (hs : s.size ≤ 140737488351232) : Calls Try.prog 67 #[.string s] w (ParseP w 64 s.data.toList) := by
  obtain ⟨O, hO⟩ : ∃ O, Obj.cells #[.int .i64 0, .string ⟨#[]⟩, .slice none 0 0] 76 (0, 0) = O := ⟨_, rfl⟩
  obtain ⟨O2, hO2⟩ : ∃ O, Obj.cells #[.string s, .int .i64 0, .int .i64 0] 135 (0, 0) = O := ⟨_, rfl⟩
  have hb1 := (Below.refl w.heap.size w).alloc (Nat.le_refl _) O
  have hb2 := hb1.alloc (by simp) O2
  have hd : ((w.alloc O).alloc O2).heap[w.heap.size]? = some O := (((Below.refl (w.alloc O).heap.size (w.alloc O)).alloc (Nat.le_refl _) O2).block w.heap.size (by simp)).trans (heap_alloc_new w O)
  have hr : ((w.alloc O).alloc O2).heap[w.heap.size + 1]? = some O2 := by have := heap_alloc_new (w.alloc O) O2; simpa using this
  have hz : ((w.alloc O).alloc O2).heap.size = w.heap.size + 2 := by simp
  rw [← hO2] at hr
  have HEL := Lib.hid (relem_any s hs 64 1 rfl ((w.alloc O).alloc O2) (w.heap.size + 1) 0 s.size (by rw [← hO2]; exact hr) (Nat.zero_le _) (Nat.le_refl _))
  rw [← hO2] at hb2 hd hz HEL
  rw [← hO] at hb2 hd hz HEL hr
  rw [Mt.sub_all] at HEL
  have HB := Lib.hid hb2
  have HD := Lib.hid hd
  have HZ := Lib.hid hz
  have HSS := Lib.hid hs
  clear hb1 hb2 hd hr hO hO2 hz
  go_enter Try.func67, Try.ntmps67
  go_wp2_with fail
  refine (HEL.out).mono ?_
  rintro x w3 ⟨ho, hx⟩
  have hsz3 : w.heap.size + 2 ≤ w3.heap.size := by have := ho.size; rw [HZ.out] at this; exact this
  have hbl : Below w.heap.size ((w.alloc (.cells #[.int .i64 0, .string ⟨#[]⟩, .slice none 0 0] 76)).alloc (.cells #[.string s, .int .i64 0, .int .i64 0] 135)) w3 := ho.toBelow (by simp) (by rw [HZ.out]; omega)
  have HB3 := Lib.hid (HB.out.trans hbl)
  have hd3 := (ho.block w.heap.size (by rw [HZ.out]; omega) (by simp)).trans HD.out
  clear ho hbl
  have hne1 : ¬ w3.heap.size = w.heap.size := by omega
  have hne2 : ¬ w3.heap.size = w.heap.size + 1 := by omega
  have hlt0 : w.heap.size < w3.heap.size := by omega
  have hlt1 : w.heap.size + 1 < w3.heap.size := by omega
  obtain ⟨c0, c1, c2, f0, f1, f2⟩ := box_of hd3
  cases hp : Mt.parseL 64 s.data.toList with
  | error e =>
    rw [hp] at hx
    obtain ⟨t, D, a, m, c, p', rfl, hrd⟩ := hx
    have hene := Mt.parseL_err _ _ _ hp
    have he1 : ((e : Int) != 0) = true := by simp; omega
    have HPP := Lib.hid hp
    obtain ⟨r0, r1, r2, _, _, _⟩ := box_of hrd
    clear hp hene hrd
    go_upto_region 4 with fail
    go_region_held3 (fun w' => w'.cell? ⟨w.heap.size + 1, 2, none⟩ = some (.int .i64 (e : Int)))
      (first
        | go_keep)
      (first
        | fail)
    go_wp2_with fail
    refine bodyPost_ret (v := .tuple #[zeroN, .string ByteArray.empty, .int .i64 e]) (by simp [results, Try.results67, go_sem, zeroN, c0, c1, c2, hlt0]; rfl) rfl ⟨?_, ?_⟩
    · exact ((box_below HB3.out (Nat.le_refl _) _ _ _).alloc (by simp; omega) _).drew
    · rw [HPP.out]
  | ok q =>
    obtain ⟨n, r⟩ := q
    rw [hp] at hx
    obtain ⟨v, rfl, hn, hrd⟩ := hx
    obtain ⟨na, nc, rfl⟩ := hn.form
    have HN := Lib.hid hn
    have HPP := Lib.hid hp
    clear hp hn
    have hrl := (Mt.parseL_suffix HPP.out).length_le
    have hrl2 : r.length ≤ s.size := hrl
    obtain ⟨q, hq⟩ : ∃ q, s.size - r.length = q := ⟨_, rfl⟩
    rw [hq] at hrd
    have hqs : (q : Int) ≤ (s.size : Int) := by omega
    have hqn : q ≤ s.size := by omega
    have hq0 : (0 : Int) ≤ (q : Int) := by omega
    have HSUF : Hid (s.extract q s.size = Mt.str r) := Lib.hid (by
      have h1 := Mt.parseL_suffix HPP.out
      rw [← Mt.sub_all] at h1
      have h2 := Mt.sub_suffix h1 (Nat.zero_le _) (Nat.le_refl _)
      rw [Mt.str_sub, h2, hq])
    obtain ⟨OB, hOB⟩ : ∃ O, Obj.cells #[.int .i64 n.tag, .string (Mt.str n.data), .slice na n.kids.length nc] 76 (0, 0) = O := ⟨_, rfl⟩
    have hal := (Below.refl w3.heap.size w3).alloc (Nat.le_refl _) OB
    have hnb := heap_alloc_new w3 OB
    have hsz := alloc_szN w3 OB
    have HNV := Lib.hid (HN.out.below hal)
    have hdV := (hal.block _ hlt0).trans hd3
    have hrV := (hal.block _ hlt1).trans hrd
    have HBV := Lib.hid (HB3.out.trans (hal.mono (by omega)))
    rw [← hOB] at hnb hsz HNV hdV hrV HBV
    obtain ⟨r0, r1, r2, _, _, _⟩ := box_of hrd
    clear hrl hrl2 hq c0 c1 c2 f0 f1 f2 hd3 hrd hal HN hOB
    go_upto_region 5 with fail
    clear r0 r1 r2
    generalize w3.alloc (.cells #[.int .i64 n.tag, .string (Mt.str n.data), .slice na n.kids.length nc] 76) = V at *
    generalize w3.heap.size = N at *
    obtain ⟨c0, c1, c2, f0, f1, f2⟩ := box_of hdV
    obtain ⟨r0, r1, r2, _, _, _⟩ := box_of hrV
    obtain ⟨k0, k1, k2, _, _, _⟩ := box_of hnb
    have hne3 : ¬ N = w.heap.size := hne1
    have hne4 : ¬ w.heap.size = N := fun e => hne1 e.symm
    clear hdV hrV hnb
    go_region_held3 (fun w' => w'.cell? ⟨w.heap.size + 1, 1, none⟩ = some (.int .i64 (q : Int)) ∧ w'.cell? ⟨N, 0, none⟩ = some (.int .i64 n.tag) ∧ w'.cell? ⟨N, 1, none⟩ = some (.string (Mt.str n.data)) ∧ w'.cell? ⟨N, 2, none⟩ = some (.slice na n.kids.length nc))
      (first
        | go_keep)
      (first
        | fail)
    go_wp2_with fail
    refine bodyPost_ret (v := .tuple #[.agg #[.int .i64 n.tag, .string (Mt.str n.data), .slice na n.kids.length nc], .string (Mt.str r), .int .i64 0]) (by simp [results, Try.results67, go_sem, c0, c1, c2, HSUF.out]) rfl ⟨?_, ?_⟩
    · exact (box_below HBV.out (Nat.le_refl _) _ _ _).drew
    · rw [HPP.out]
      refine ⟨_, rfl, ?_⟩
      have hbb : ∀ b, ((w.alloc (.cells #[.int .i64 0, .string ⟨#[]⟩, .slice none 0 0] 76)).alloc (.cells #[.string s, .int .i64 0, .int .i64 0] 135)).heap.size ≤ b → w.heap.size + 2 ≤ b := fun b hb => by rw [HZ.out] at hb; exact hb
      refine IsNd.keep (fun b hb _ => by have := hbb b hb; omega) (fun b hb hlt => ?_) (Nat.le_refl _) HNV.out
      have hne : b ≠ w.heap.size := by have := hbb b hb; omega
      show (((V.setCell ⟨w.heap.size, 0, none⟩ (.int .i64 n.tag)).setCell ⟨w.heap.size, 1, none⟩ (.string (Mt.str n.data))).setCell ⟨w.heap.size, 2, none⟩ (.slice na n.kids.length nc)).heap[b]? = _
      rw [heap_setCell_other _ _ _ _ hne, heap_setCell_other _ _ _ _ hne, heap_setCell_other _ _ _ _ hne]
set_option maxRecDepth 100000 in
theorem rWhole_any (s : ByteArray) (w : World) (hs : s.size ≤ 140737488351232) : Calls Try.prog 44 #[.string s] w (WholeP w s.data.toList) := by
  have hb0 := (Below.refl w.heap.size w).alloc (Nat.le_refl _) (.cells #[.int .i64 0, .string ByteArray.empty, .slice none 0 0] 76)
  have HB0 := Lib.hid hb0
  have HBLK := Lib.hid (heap_alloc_new w (.cells #[.int .i64 0, .string ByteArray.empty, .slice none 0 0] 76))
  have HW0 : Hid ((w.alloc (.cells #[.int .i64 0, .string ByteArray.empty, .slice none 0 0] 76)).heap.size = w.heap.size + 1) := Lib.hid (by simp)
  have HP := Lib.hid (rParse_any s (w.alloc (.cells #[.int .i64 0, .string ByteArray.empty, .slice none 0 0] 76)) hs)
  clear hb0
  go_enter Try.func44, Try.ntmps44
  go_wp2_with fail
  refine (HP.out).mono ?_
  rintro x w1 ⟨hb1, hx⟩
  have hlt1 : w.heap.size < w1.heap.size := by have := hb1.size; rw [HW0.out] at this; omega
  obtain ⟨c0, c1, c2, f0, f1, f2⟩ := box_of ((hb1.block w.heap.size (by rw [HW0.out]; omega)).trans HBLK.out)
  have HB1 : Hid (Below w.heap.size w w1) := HB0.out.trans (hb1.mono HB0.out.size)
  clear hb1
  cases hp : Mt.parseL 64 s.data.toList with
  | error e =>
    rw [hp] at hx
    have hene := Mt.parseL_err _ _ _ hp
    have he1 : ((e : Int) != 0) = true := by simp; omega
    have he2 : ((e : Int) == 0) = false := by simp; omega
    have HPP : Hid (Mt.wholeL s.data.toList = .error e) := by show Mt.wholeL _ = _; unfold Mt.wholeL; rw [hp]
    subst hx
    clear hp hene
    unfold zeroN
    go_wp2_with fail
    refine bodyPost_ret (v := .tuple #[zeroN, .int .i64 e]) (by simp [results, Try.results44, go_sem, zeroN, c0, c1, c2, hlt1]; rfl) rfl ⟨(box_below HB1.out (Nat.le_refl _) _ _ _).alloc (by simp; omega) _, ?_⟩
    rw [HPP.out]
  | ok q =>
    obtain ⟨n, r⟩ := q
    rw [hp] at hx
    obtain ⟨v, rfl, hn⟩ := hx
    obtain ⟨na, nc, rfl⟩ := hn.form
    have HN := Lib.hid hn
    by_cases hr : r = []
    · subst hr
      have HPP : Hid (Mt.wholeL s.data.toList = .ok n) := by show Mt.wholeL _ = _; unfold Mt.wholeL; rw [hp]; rfl
      have hemp : (Mt.str []).toList.isEmpty = true := by rw [ByteArray.toList_eq]; rfl
      have hs0 : (Mt.str []).size = 0 := rfl
      clear hp hn
      go_wp2_with fail
      refine bodyPost_ret (v := .tuple #[.agg #[.int .i64 n.tag, .string (Mt.str n.data), .slice na n.kids.length nc], .int .i64 0]) (by simp [results, Try.results44, go_sem, c0, c1, c2, hlt1]) rfl ⟨(box_below HB1.out (Nat.le_refl _) _ _ _).alloc (by simp; omega) _, ?_⟩
      rw [HPP.out]
      refine ⟨_, rfl, ?_⟩
      have hne : ∀ b, (w.alloc (.cells #[.int .i64 0, .string ByteArray.empty, .slice none 0 0] 76)).heap.size ≤ b → b ≠ w.heap.size := fun b hb => by rw [HW0.out] at hb; omega
      refine IsNd.keep (fun b hb _ => by rw [HW0.out] at hb; omega) (fun b hb hlt => ?_) (Nat.le_refl _) HN.out
      have hal := (Below.refl w1.heap.size (((w1.setCell ⟨w.heap.size, 0, none⟩ (.int .i64 n.tag)).setCell ⟨w.heap.size, 1, none⟩ (.string (Mt.str n.data))).setCell ⟨w.heap.size, 2, none⟩ (.slice na n.kids.length nc))).alloc (by simp) (.cells #[.int .i64 n.tag, .string (Mt.str n.data), .slice na n.kids.length nc] 76)
      rw [hal.block b hlt, heap_setCell_other _ _ _ _ (hne b hb), heap_setCell_other _ _ _ _ (hne b hb), heap_setCell_other _ _ _ _ (hne b hb)]
    · have hlp : 0 < r.length := List.length_pos_iff.2 hr
      have hne1 : (Mt.str r).toList.isEmpty = false := nonempty_str (by rw [Mt.str_size]; exact hlp)
      have HPP : Hid (Mt.wholeL s.data.toList = .error 4) := by show Mt.wholeL _ = _; unfold Mt.wholeL; rw [hp]; simp [hr]
      have hsz : (Mt.str r).size = r.length := Mt.str_size r
      have hd1 : decide ((0 : Int) < (r.length : Int)) = true := decide_eq_true (by omega)
      have hd2 : decide (0 < r.length) = true := decide_eq_true hlp
      clear hp hn
      go_wp2_with fail
      refine bodyPost_ret (v := .tuple #[zeroN, .int .i64 4]) (by simp [results, Try.results44, go_sem, zeroN, c0, c1, c2, hlt1]; rfl) rfl ⟨(box_below HB1.out (Nat.le_refl _) _ _ _).alloc (by simp; omega) _, ?_⟩
      rw [HPP.out]
      rfl
end Go.Proofs.Ytcijjblcoelabaa
