/-
  What readAll comes to: the sectors of a disk.
-/
import Derived.Test.YtmahkgkhnpffeaaJrN
namespace Go.Proofs.Ytmahkgkhnpffeaa
open Go.RowKit

theorem Try.infoStr6 : (Try.prog.info? 9).map (fun i => (i.zero, i.size, i.bytes)) = some (some (.string ⟨#[]⟩), 1, 16) := by kernel_rfl
theorem make_strs (k : Nat) (hk : k ≤ 100000) (w : World) : (Instr.makeSlice 29 (.int .i64 (k : Int)) (.int .i64 (k : Int))).run Try.prog w = .ok (.slice (some ⟨w.heap.size, 0, none⟩) k k) (w.alloc (.cells (Array.replicate k (.string ⟨#[]⟩)) 9)) := by
  obtain ⟨i, hi, hz, hs, hb⟩ := info_parts Try.infoStr6
  have h := run_make (P := Try.prog) w 29 9 i _ Try.underlying29 hi hz .i64 .i64 (k : Int) (k : Int) (by omega) (Int.le_refl _) (by rw [hb]; omega) (by omega)
  rw [Int.toNat_natCast, hs, Nat.mul_one] at h
  have e : madeCells (Value.string ⟨#[]⟩).cells k = Array.replicate k (.string ⟨#[]⟩) := made_all _ (.string ⟨#[]⟩) k 1 rfl (by decide) (fun j hj => by (obtain rfl : j = 0 := by omega); rfl)
  rw [e] at h
  exact h
/-- The cells of texts. -/
def tcs (ls : List (List UInt8)) : List Value := ls.map fun l => Value.string (Mt.str l)
theorem tcs_length (ls : List (List UInt8)) : (tcs ls).length = ls.length := by simp [tcs]
theorem tcs_append (a b : List (List UInt8)) : tcs (a ++ b) = tcs a ++ tcs b := by simp [tcs]
/-- A row of texts, of which so many are there. -/
def trow (ls : List (List UInt8)) (k : Nat) : Array Value := (tcs (ls.take k) ++ List.replicate (ls.length - k) (Value.string ⟨#[]⟩)).toArray
theorem trow_zero (ls : List (List UInt8)) : trow ls 0 = Array.replicate ls.length (Value.string ⟨#[]⟩) := by
  unfold trow tcs
  apply Array.ext'
  simp
theorem trow_size (ls : List (List UInt8)) (k : Nat) (h : k ≤ ls.length) : (trow ls k).size = ls.length := by
  unfold trow
  simp [tcs_length]; omega
theorem trow_set (ls : List (List UInt8)) (k : Nat) (h : k < ls.length) : (trow ls k).setIfInBounds k (.string (Mt.str ls[k])) = trow ls (k + 1) := by
  unfold trow
  apply Array.ext'
  have hl : (tcs (ls.take k)).length = k := by rw [tcs_length, List.length_take]; omega
  have e : ls.length - k = (ls.length - (k + 1)) + 1 := by omega
  rw [Array.toList_setIfInBounds, List.set_append_right _ _ (by rw [hl]; exact Nat.le_refl _), hl, Nat.sub_self, e, List.replicate_succ, List.set_cons_zero, List.take_succ_eq_append_getElem h, tcs_append, List.append_assoc]
  rfl
theorem trow_full (ls : List (List UInt8)) : trow ls ls.length = (tcs ls).toArray := by
  unfold trow
  simp
theorem trow_cell (ls : List (List UInt8)) (k j : Nat) (h : k ≤ ls.length) (hj : j < ls.length) : ∃ v : Value, (trow ls k)[j]? = some v := by
  have : j < (trow ls k).size := by rw [trow_size ls k h]; exact hj
  exact ⟨_, Array.getElem?_eq_getElem this⟩
/-- What stands in the sectors. -/
def Mt.secsL (d : Mt.Dk) : List (List UInt8) := (List.range d.lasts.length).map fun i => d.sec i
theorem Mt.secsL_length (d : Mt.Dk) : (Mt.secsL d).length = d.lasts.length := by simp [Mt.secsL]
theorem Mt.secsL_get (d : Mt.Dk) (k : Nat) (h : k < (Mt.secsL d).length) : (Mt.secsL d)[k] = (d.read (k : Int)).1 := by simp [Mt.secsL, Mt.Dk.sec]
theorem Mt.read_on {d : Mt.Dk} (ho : d.off = false) {k : Nat} (hk : k < d.lasts.length) : (d.read (k : Int)).2 = 0 := by
  have : d.ask (k : Int) = 0 := by unfold Mt.Dk.ask; rw [ho]; simp; omega
  unfold Mt.Dk.read
  rw [if_pos this]
theorem Mt.read_off {d : Mt.Dk} (ho : d.off = true) (i : Int) : d.read i = ([], 10) := by
  have : d.ask i = 10 := by unfold Mt.Dk.ask; rw [ho]; rfl
  unfold Mt.Dk.read
  rw [this]; simp
theorem isTs_row {w : World} {g n : Nat} {ls : List (List UInt8)} (hn : ls.length = n) (h : w.heap[g]? = some (.cells (tcs ls).toArray 9 (0, 0))) : IsTs w (.slice (some ⟨g, 0, none⟩) n n) ls := by
  subst hn
  refine ⟨some ⟨g, 0, none⟩, ls.length, rfl, Nat.le_refl _, .inr ⟨g, 0, rfl, lt_of_block h, fun j hj => ?_⟩⟩
  rw [cell_of_row _ _ _ _ _ _ h]
  simp [tcs, List.getElem?_eq_getElem hj]

section
variable {w u : World} {B bl bm : Nat} {d : Mt.Dk}
set_option maxRecDepth 100000 in
theorem readAll_off (h : IsDisk w B bl bm d) (ho : d.off = true) (h0 : 0 < d.lasts.length) : Calls Try.prog 21 #[.pointer (some ⟨B, 0, none⟩)] w fun e w' => e = .returned (.tuple #[.slice none 0 0, .int .i64 10]) ∧ Below w.heap.size w w' := by
  have hn8 := h.ok.most
  have HS := Lib.hid (sectors_any h)
  have HMK := Lib.hid (make_strs d.lasts.length (by omega))
  have HRD := Lib.hid (fun u (hb : Below w.heap.size w u) => read_any (h.below hb) 0)
  have HRV := Lib.hid (Mt.read_off ho 0)
  clear h ho
  generalize d.lasts.length = n at *
  have HB1 := Lib.hid ((Below.refl w.heap.size w).alloc (Nat.le_refl _) (.cells (Array.replicate n (.string ⟨#[]⟩)) 9))
  have hmk := HMK.out
  go_enter Try.func21, Try.ntmps21
  go_wp2_with fail
  refine (HS.out).mono ?_
  rintro e w1 ⟨rfl, rfl⟩
  go_wp2_with fail
  clear hmk
  refine wp_loop_rounds 1 ?_
  rw [rounds_succ]
  go_wp2_with fail
  refine (HRD.out _ HB1.out).mono ?_
  rintro e w2 ⟨rfl, hb⟩
  rw [HRV.out]
  have HB2 := Lib.hid (HB1.out.trans (hb.mono HB1.out.size))
  clear hb
  go_wp2_with fail
  go_ret2
  exact ⟨rfl, HB2.out⟩
set_option maxRecDepth 100000 in
theorem readAll_on (h : IsDisk w B bl bm d) (ho : d.off = false) : Calls Try.prog 21 #[.pointer (some ⟨B, 0, none⟩)] w fun e w' => ∃ v, e = .returned (.tuple #[v, .int .i64 0]) ∧ IsTs w' v (Mt.secsL d) ∧ Below w.heap.size w w' := by
  have hn8 := h.ok.most
  have HS := Lib.hid (sectors_any h)
  have HMK := Lib.hid (make_strs d.lasts.length (by omega))
  have HRD := Lib.hid (fun u (hb : Below w.heap.size w u) (i : Int) => read_any (h.below hb) i)
  have HRV := Lib.hid (fun k (hk : k < d.lasts.length) => Mt.read_on ho hk)
  have HSL := Lib.hid (Mt.secsL_length d)
  have HSG := Lib.hid (fun k hk => Mt.secsL_get d k hk)
  have HR0 := Lib.hid (trow_zero (Mt.secsL d))
  have HRS := Lib.hid (fun k hk => trow_set (Mt.secsL d) k hk)
  have HRC := Lib.hid (fun k j h hj => trow_cell (Mt.secsL d) k j h hj)
  have HRF := Lib.hid (trow_full (Mt.secsL d))
  have HPOST : Hid (∀ (v : Value) (w' : World), IsTs w' v (Mt.secsL d) → Below w.heap.size w w' → (fun (e : Ending) (w' : World) => ∃ v, e = .returned (.tuple #[v, .int .i64 0]) ∧ IsTs w' v (Mt.secsL d) ∧ Below w.heap.size w w') (.returned (.tuple #[v, .int .i64 0])) w') := Lib.hid (fun v w' h1 h2 => ⟨v, rfl, h1, h2⟩)
  generalize hPP : (fun (e : Ending) (w' : World) => ∃ v, e = .returned (.tuple #[v, .int .i64 0]) ∧ IsTs w' v (Mt.secsL d) ∧ Below w.heap.size w w') = PP at *
  clear h ho hPP
  generalize Mt.secsL d = ls at *
  generalize d.lasts.length = n at *
  rw [HSL.out] at HR0 HRF HRC
  have hb1 := (Below.refl w.heap.size w).alloc (Nat.le_refl _) (.cells (trow ls 0) 9)
  have hx1 := heap_alloc_new w (.cells (trow ls 0) 9)
  rw [HR0.out] at hb1 hx1
  have HB1 := Lib.hid hb1
  have HX1 := Lib.hid hx1
  clear hb1 hx1
  have hmk := HMK.out
  go_enter Try.func21, Try.ntmps21
  go_wp2_with fail
  refine (HS.out).mono ?_
  rintro e w1 ⟨rfl, rfl⟩
  go_wp2_with fail
  clear hmk
  go_loopw [5, 6, 7, 13] (fun _ _ _ i wr => ∃ k : Nat, k ≤ n ∧ i = .int .i64 k ∧ Hid (Below w.heap.size w wr) ∧ Hid (wr.heap[w.heap.size]? = some (.cells (trow ls k) 9 (0, 0)))) (fun _ _ _ i _ => n - (intOf i).toNat)
  case atStart => exact ⟨0, Nat.zero_le _, rfl, HB1, Lib.hid (by rw [HR0.out]; exact HX1.out)⟩
  case round =>
    obtain ⟨k, hk, rfl, HB, HX⟩ := hrel
    by_cases hlt : k < n
    · have hkl : k < ls.length := by rw [HSL.out]; exact hlt
      go_wp2_with fail
      refine (HRD.out _ HB.out _).mono ?_
      rintro e w2 ⟨rfl, hb⟩
      rw [HRV.out k hlt, ← HSG.out k hkl]
      have HB2 := Lib.hid (HB.out.trans (hb.mono HB.out.size))
      have hx2 := (hb.block _ (lt_of_block HX.out)).trans HX.out
      obtain ⟨v0, hv0⟩ := HRC.out k k hk hlt
      have hc0 : w2.cell? ⟨w.heap.size, k, none⟩ = some v0 := by rw [cell_of_row _ _ _ _ _ _ hx2]; exact hv0
      have hf0 : w2.frozen? ⟨w.heap.size, k, none⟩ = false := frozen_of_row _ _ _ _ _ hx2
      have HX3 := Lib.hid (show (w2.setCell ⟨w.heap.size, k, none⟩ (.string (Mt.str ls[k]))).heap[w.heap.size]? = some (.cells (trow ls (k + 1)) 9 (0, 0)) by rw [heap_setCell_same _ _ _ _ _ _ hx2, HRS.out k hkl])
      have HB3 := Lib.hid (HB2.out.setCell (p := ⟨w.heap.size, k, none⟩) (Nat.le_refl _) (.string (Mt.str ls[k])))
      clear hb hx2 hv0
      generalize Mt.str ls[k] = S at *
      go_wp2_with fail
      go_roundw
      case rel => exact ⟨k + 1, by omega, by go_num, HB3, HX3⟩
      case measure => simp [intOf]; omega
    · obtain rfl : k = n := by omega
      go_wp2_with fail
      exact HPOST.out _ _ (isTs_row HSL.out (by rw [← HRF.out]; exact HX.out)) HB.out
end
end Go.Proofs.Ytmahkgkhnpffeaa
