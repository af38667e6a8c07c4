/-
  The document's Element: a length that is too great.
-/
import Derived.Test.YtcijjblcoelabaaTvZ
import Derived.Test.YtcijjblcoelabaaGet
set_option linter.unusedVariables false
set_option linter.unusedSimpArgs false
namespace Go.Proofs.Ytcijjblcoelabaa
open Go.RowKit
set_option maxRecDepth 100000 in
set_option maxHeartbeats 1000000 in
theorem relem_big {w : World} {R : Nat} {s : ByteArray} {p : Nat} (h : IsRd w R s p 0) (fin dep d : Nat) (hd : dep ≤ 64) (hp : p < fin) (hf : fin ≤ s.size) (hs : s.size ≤ 140737488351232) (ht : (s[p]'(by omega)).toNat % 32 ≠ 31) (hp2 : p + 1 < fin) (k : Nat) (hk0 : 0 < k) (hk4 : k ≤ 4) (hc : (s[p + 1]'(by omega)).toNat = 128 + k) (hfar : p + 2 + k ≤ fin) (hbig : 1048576 < Mt.gn s.data.toList (p + 2) k) (l : List UInt8) (hl : Mt.splitL l = .error 5) :
    Calls Try.prog 83 #[.pointer (some ⟨R, 0, none⟩), .int .i64 fin, .int .i64 dep] w (ElemP w R s fin (d + 1) l) := by
  have hlt := lt_of_block h
  have hb0 := (Below.refl w.heap.size w).alloc (Nat.le_refl _) (.cells #[.int .i64 0, .string ⟨#[]⟩, .slice none 0 0] 76)
  obtain ⟨n, hn⟩ : ∃ n, Mt.gn s.data.toList (p + 2) k = n := ⟨_, rfl⟩
  have HG : Hid (∀ u, Calls Try.prog 95 #[.string s, .int .i64 ((p + 2 : Nat) : Int), .int .i64 (k : Int)] u fun e w' => e = .returned (.tuple #[.int .u64 (n : Int), .bool true]) ∧ u = w') := Lib.hid (fun u => by
    have hg := rget_yes s (p + 2) k u hs (by omega) (by omega) (by omega)
    rw [hn] at hg
    exact hg)
  have hn1 : decide ((1048576 : Int) < (n : Int)) = true := decide_eq_true (by omega)
  have HNN := Lib.hid hn1
  clear hn1 hn hbig
  have hdd : decide ((64 : Int) < dep) = false := decide_eq_false (by omega)
  have hpe : decide (fin ≤ p) = false := decide_eq_false (by omega)
  have hpe3 : decide ((fin : Int) ≤ (p : Int) + 1) = false := decide_eq_false (by omega)
  have hps2 : p + 1 < s.size := by omega
  have hi1 : (p : Int) + 1 < (s.size : Int) := by omega
  have hi0 : (0 : Int) ≤ (p : Int) + 1 := by omega
  have hi2 : ((p + 1 : Nat) : Int) < (s.size : Int) := by omega
  have htn : ((p : Int) + 1).toNat = p + 1 := by omega
  have hwr : wrap64 ((p : Int) + 1) = (p : Int) + 1 := by simp only [wrap64]; omega
  have hwr2 : IntKind.i64.wrap ((p : Int) + 1) = (p : Int) + 1 := IntWalk.i64_in _ (by omega)
  have hps : p < s.size := by omega
  have hw : wrap64 ((s[p]'(by omega)).toNat : Int) = ((s[p]'(by omega)).toNat : Int) := by
    have := (s[p]'(by omega)).toNat_lt
    simp only [wrap64]; omega
  have hti : ((wrap64 ((s[p]'(by omega)).toNat : Int)).tmod 32 == 31) = false := by
    rw [hw, Int.tmod_eq_emod_of_nonneg (by omega)]; simp; omega
  clear hw
  have hw : wrap64 ((s[p + 1]'(by omega)).toNat : Int) = ((s[p + 1]'(by omega)).toNat : Int) := by
    have := (s[p + 1]'(by omega)).toNat_lt
    simp only [wrap64]; omega
  obtain ⟨C, hC⟩ : ∃ C, wrap64 ((s[p + 1]'(by omega)).toNat : Int) = C := ⟨_, rfl⟩
  have hCk : C = 128 + (k : Int) := by
    have h1 : ((s[p + 1]'(by omega)).toNat : Int) = 128 + (k : Int) := by omega
    exact hC.symm.trans (hw.trans h1)
  have HC := Lib.hid hC
  have HTI := Lib.hid hti
  clear hC hw hti hc
  have hc1 : (C == 128) = false := by
    have h1 : C ≠ 128 := by omega
    exact beq_eq_false_iff_ne.2 h1
  have hc2 : decide (132 < C) = false := decide_eq_false (by omega)
  have hc3 : decide (128 < C) = true := decide_eq_true (by omega)
  have hc4 : C - 128 = (k : Int) := by omega
  have hfp : decide ((fin : Int) - ((p : Int) + 2) < (k : Int)) = false := decide_eq_false (by omega)
  have hwk : IntKind.i64.wrap (k : Int) = (k : Int) := IntWalk.i64_in _ (by omega)
  have hwk2 : wrap64 (k : Int) = (k : Int) := by simp only [wrap64]; omega
  have hr0 := (hb0.block R hlt).trans h
  obtain ⟨r0, r1, r2, _, _, _⟩ := box_of hr0
  have HW : Hid (∀ k, IsRd (((w.alloc (.cells #[.int .i64 0, .string ⟨#[]⟩, .slice none 0 0] 76)).drewN k).setCell ⟨R, 1, none⟩ (.int .i64 ((p : Int) + 2))) R s (p + 2) 0) := by
    intro k
    unfold IsRd
    rw [heap_setCell_same (w := (w.alloc (.cells #[.int .i64 0, .string ⟨#[]⟩, .slice none 0 0] 76)).drewN k) _ _ _ _ _ hr0]; rfl
  have HR0 := Lib.hid (heap_alloc_new w (.cells #[.int .i64 0, .string ⟨#[]⟩, .slice none 0 0] 76))
  have HNE : Hid (R ≠ w.heap.size) := by show R ≠ _; omega
  have HLT := Lib.hid hlt
  have HL := Lib.hid hl
  have HRD := Lib.hid hr0
  clear hb0 h hlt hd hr0 hl hCk hk0 hk4 hfar
  have hti := HTI.out
  go_enter Try.func83, Try.ntmps83
  go_wp2_with fail
  go_quiet (fail)
  revert nq
  intro nq0
  go_wp2_with fail
  obtain ⟨q0, q1, q2, g0, g1, g2⟩ := box_of (w := (w.alloc (.cells #[.int .i64 0, .string ⟨#[]⟩, .slice none 0 0] 76)).drewN nq0) HRD.out
  go_quiet (fail)
  go_upto_region 12 with fail
  rw [HC.out]
  have hrd1 := HW.out (nq0 + nq)
  have ho1 : OnlyS [R] w (((w.alloc (.cells #[.int .i64 0, .string ⟨#[]⟩, .slice none 0 0] 76)).drewN (nq0 + nq)).setCell ⟨R, 1, none⟩ (.int .i64 ((p : Int) + 2))) := (((OnlyS.refl [R] w).alloc _).drewN _).setCell (by simp) _
  have hnd1 : ((((w.alloc (.cells #[.int .i64 0, .string ⟨#[]⟩, .slice none 0 0] 76)).drewN (nq0 + nq)).setCell ⟨R, 1, none⟩ (.int .i64 ((p : Int) + 2))).heap[w.heap.size]?) = some (.cells #[.int .i64 0, .string ⟨#[]⟩, .slice none 0 0] 76 (0, 0)) := (heap_setCell_other _ _ _ _ (fun e => HNE.out e.symm)).trans HR0.out
  generalize ((w.alloc (.cells #[.int .i64 0, .string ⟨#[]⟩, .slice none 0 0] 76)).drewN (nq0 + nq)).setCell ⟨R, 1, none⟩ (.int .i64 ((p : Int) + 2)) = wx at *
  obtain ⟨m0, m1, m2, _, _, _⟩ := box_of hrd1
  have HF1 : Hid (∀ k, Calls Try.prog 94 #[.pointer (some ⟨R, 0, none⟩), .int .i64 5] (wx.drewN k) fun x w' => x = .returned (.agg #[.int .i64 0, .string ByteArray.empty, .slice none 0 0]) ∧ IsRd w' R s (p + 2) 5 ∧ OnlyS [R] (wx.drewN k) w') := Lib.hid (fun k => rfail_any (w := wx.drewN k) hrd1 5)
  have HO1 := Lib.hid ho1
  have HN1 := Lib.hid hnd1
  clear hrd1 ho1 hnd1
  have hn1 := HNN.out
  go_upto_region 18 with fail
  go_quiet ((go_at_call 95; exact Calls.quiet_of_same ((HG.out _).mono fun _ _ ⟨h1, h2⟩ => ⟨h1, h2.symm⟩)))
  go_wp2_with fail
  refine (HF1.out _).mono ?_
  rintro x w1 ⟨rfl, hrd, ho⟩
  have HE := Lib.hid (elem_failed hrd ((HO1.out.drewN _).trans ho) HLT.out (.int .i64 0) (.string ⟨#[]⟩) (.slice none 0 0))
  have hbx := (ho.block w.heap.size (lt_of_block (w := wx) HN1.out) (by have := HNE.out; simp only [List.mem_singleton]; exact fun e => this e.symm)).trans HN1.out
  obtain ⟨c0, c1, c2, f0, f1, f2⟩ := box_of hbx
  clear hrd ho hbx
  go_wp2_with fail
  refine bodyPost_ret (v := .agg #[.int .i64 0, .string ByteArray.empty, .slice none 0 0]) (by simp [results, Try.results83, go_sem, c0, c1, c2]) rfl ⟨HE.out.1, ?_⟩
  rw [show Mt.parseL (d + 1) l = .error 5 by simp [Mt.parseL, HL.out]]
  exact ⟨_, _, _, _, _, p + 2, rfl, HE.out.2⟩
end Go.Proofs.Ytcijjblcoelabaa
