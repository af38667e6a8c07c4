/-
  The document's Element, where its head is in order: what follows it.
-/
import Derived.Test.YtcijjblcoelabaaTvHb
import Derived.Test.YtcijjblcoelabaaGet
import Derived.Deep.RegionHeld3
import Derived.Deep.RegionLaw
import Derived.Deep.CutRange
set_option linter.unusedVariables false
set_option linter.unusedSimpArgs false
namespace Go.Proofs.Ytcijjblcoelabaa
open Go.RowKit
/-- A head in order: its length is n, and what it speaks of begins at q. -/
def HeadOk (s : ByteArray) (p fin n q c1 : Nat) : Prop := (c1 < 128 ∧ n = c1 ∧ q = p + 2) ∨ ∃ k, 0 < k ∧ k ≤ 4 ∧ c1 = 128 + k ∧ p + 2 + k ≤ fin ∧ n = Mt.gn s.data.toList (p + 2) k ∧ n ≤ 1048576 ∧ q = p + 2 + k
theorem Mt.cons_test {tg : Nat} (h : tg < 256) : ((wrap64 ((tg : Int) / 32)).tmod 2 == 0) = decide (tg / 32 % 2 = 0) := by
  have h1 : wrap64 ((tg : Int) / 32) = ((tg / 32 : Nat) : Int) := by simp only [wrap64]; omega
  rw [h1, Int.tmod_eq_emod_of_nonneg (by omega), Bool.eq_iff_iff, beq_iff_eq, decide_eq_true_eq]
  omega
set_option maxRecDepth 100000 in
set_option maxHeartbeats 1000000 in
theorem relem_ok {w : World} {R : Nat} {s : ByteArray} {p : Nat} (h : IsRd w R s p 0) (fin dep d n q : Nat) (hd : dep ≤ 64) (hp : p < fin) (hf : fin ≤ s.size) (hs : s.size ≤ 140737488351232) (ht : (s[p]'(by omega)).toNat % 32 ≠ 31) (hp2 : p + 1 < fin)
    (hh : HeadOk s p fin n q (s[p + 1]'(by omega)).toNat) (l : List UInt8) (hl3 : fin - q < n → Mt.splitL l = .error 3) (hlk : q + n ≤ fin → ∃ X, Mt.splitL l = .ok ((s[p]'(by omega)).toNat, Mt.sub s q (q + n), X) ∧ X.length = fin - (q + n))
    (hki : ∀ (u : World) (pk st : Nat), IsRd u R s pk 0 → pk < st → st ≤ s.size → Calls Try.prog 83 #[.pointer (some ⟨R, 0, none⟩), .int .i64 (st : Int), .int .i64 ((dep + 1 : Nat) : Int)] u (ElemP u R s st d (Mt.sub s pk st))) :
    Calls Try.prog 83 #[.pointer (some ⟨R, 0, none⟩), .int .i64 fin, .int .i64 dep] w (ElemP w R s fin (d + 1) l) := by
  have hlt := lt_of_block h
  have hb0 := (Below.refl w.heap.size w).alloc (Nat.le_refl _) (.cells #[.int .i64 0, .string ⟨#[]⟩, .slice none 0 0] 76)
  have hdd : decide ((64 : Int) < dep) = false := decide_eq_false (by omega)
  have hpe : decide (fin ≤ p) = false := decide_eq_false (by omega)
  have hpe3 : decide ((fin : Int) ≤ (p : Int) + 1) = false := decide_eq_false (by omega)
  have hps2 : p + 1 < s.size := by omega
  have hi1 : (p : Int) + 1 < (s.size : Int) := by omega
  have hi0 : (0 : Int) ≤ (p : Int) + 1 := by omega
  have hi2 : ((p + 1 : Nat) : Int) < (s.size : Int) := by omega
  have htn : ((p : Int) + 1).toNat = p + 1 := by omega
  have hwr : wrap64 ((p : Int) + 1) = (p : Int) + 1 := by simp only [wrap64]; omega
  have hwr2 : IntKind.i64.wrap ((p : Int) + 1) = (p : Int) + 1 := IntWalk.i64_in _ (by omega)
  have hps : p < s.size := by omega
  have hw : wrap64 ((s[p]'(by omega)).toNat : Int) = ((s[p]'(by omega)).toNat : Int) := by
    have := (s[p]'(by omega)).toNat_lt
    simp only [wrap64]; omega
  have hti : ((wrap64 ((s[p]'(by omega)).toNat : Int)).tmod 32 == 31) = false := by
    rw [hw, Int.tmod_eq_emod_of_nonneg (by omega)]; simp; omega
  have HTG := Lib.hid hw
  have HTB := Lib.hid (s[p]'(by omega)).toNat_lt
  clear hw
  have hw : wrap64 ((s[p + 1]'(by omega)).toNat : Int) = ((s[p + 1]'(by omega)).toNat : Int) := by
    have := (s[p + 1]'(by omega)).toNat_lt
    simp only [wrap64]; omega
  obtain ⟨C, hC⟩ : ∃ C, wrap64 ((s[p + 1]'(by omega)).toNat : Int) = C := ⟨_, rfl⟩
  have hCb : C = (((s[p + 1]'(by omega)).toNat : Nat) : Int) := hC.symm.trans hw
  have hqf : q ≤ fin ∧ n ≤ 1048576 := by
    have := (s[p + 1]'(by omega)).toNat_lt
    rcases hh with ⟨h1, h2, h3⟩ | ⟨k, h1, h2, h3, h4, h5, h6, h7⟩ <;> omega
  have hc1 : (C == 128) = false := by
    have h1 : C ≠ 128 := by rcases hh with ⟨h1, h2, h3⟩ | ⟨k, h1, h2, h3, h4, h5, h6, h7⟩ <;> omega
    exact beq_eq_false_iff_ne.2 h1
  have hc2 : decide (132 < C) = false := decide_eq_false (by rcases hh with ⟨h1, h2, h3⟩ | ⟨k, h1, h2, h3, h4, h5, h6, h7⟩ <;> omega)
  have HC := Lib.hid hC
  have HTI := Lib.hid hti
  have HCB := Lib.hid hCb
  have HH := Lib.hid hh
  have HQF := Lib.hid hqf
  clear hC hw hti
  have hr0 := (hb0.block R hlt).trans h
  obtain ⟨r0, r1, r2, _, _, _⟩ := box_of hr0
  have HW : Hid (∀ k, IsRd (((w.alloc (.cells #[.int .i64 0, .string ⟨#[]⟩, .slice none 0 0] 76)).drewN k).setCell ⟨R, 1, none⟩ (.int .i64 ((p : Int) + 2))) R s (p + 2) 0) := by
    intro k
    unfold IsRd
    rw [heap_setCell_same (w := (w.alloc (.cells #[.int .i64 0, .string ⟨#[]⟩, .slice none 0 0] 76)).drewN k) _ _ _ _ _ hr0]; rfl
  have HR0 := Lib.hid (heap_alloc_new w (.cells #[.int .i64 0, .string ⟨#[]⟩, .slice none 0 0] 76))
  have HNE : Hid (R ≠ w.heap.size) := by show R ≠ _; omega
  have HLT := Lib.hid hlt
  have HL3 := Lib.hid hl3
  have HLK := Lib.hid hlk
  have HKI := Lib.hid hki
  have HWD : Hid (wrap64 ((dep : Int) + 1) = ((dep + 1 : Nat) : Int)) := Lib.hid (by simp only [wrap64]; omega)
  have HWD2 : Hid (IntKind.i64.wrap ((dep : Int) + 1) = (dep : Int) + 1) := Lib.hid (IntWalk.i64_in _ (by omega))
  have HRD := Lib.hid hr0
  have HFS := Lib.hid hf
  have HSS := Lib.hid hs
  clear hb0 h hlt hd hr0 hl3 hlk hki hCb hh hqf
  have hti := HTI.out
  go_enter Try.func83, Try.ntmps83
  go_wp2_with fail
  go_quiet (fail)
  revert nq
  intro nq0
  go_wp2_with fail
  obtain ⟨q0, q1, q2, g0, g1, g2⟩ := box_of (w := (w.alloc (.cells #[.int .i64 0, .string ⟨#[]⟩, .slice none 0 0] 76)).drewN nq0) HRD.out
  go_quiet (fail)
  go_upto_region 12 with fail
  rw [HC.out]
  have hrd1 := HW.out (nq0 + nq)
  have ho1 : OnlyS [R] w (((w.alloc (.cells #[.int .i64 0, .string ⟨#[]⟩, .slice none 0 0] 76)).drewN (nq0 + nq)).setCell ⟨R, 1, none⟩ (.int .i64 ((p : Int) + 2))) := (((OnlyS.refl [R] w).alloc _).drewN _).setCell (by simp) _
  have hnd1 : ((((w.alloc (.cells #[.int .i64 0, .string ⟨#[]⟩, .slice none 0 0] 76)).drewN (nq0 + nq)).setCell ⟨R, 1, none⟩ (.int .i64 ((p : Int) + 2))).heap[w.heap.size]?) = some (.cells #[.int .i64 0, .string ⟨#[]⟩, .slice none 0 0] 76 (0, 0)) := (heap_setCell_other _ _ _ _ (fun e => HNE.out e.symm)).trans HR0.out
  generalize ((w.alloc (.cells #[.int .i64 0, .string ⟨#[]⟩, .slice none 0 0] 76)).drewN (nq0 + nq)).setCell ⟨R, 1, none⟩ (.int .i64 ((p : Int) + 2)) = wx at *
  have HI1 := Lib.hid hrd1
  have HO1 := Lib.hid ho1
  have HN1 := Lib.hid hnd1
  clear hrd1 ho1 hnd1 HW HRD HR0 r0 r1 r2 q0 q1 q2 g0 g1 g2
  obtain ⟨bb, hbb⟩ : ∃ bb, decide (128 < C) = bb := ⟨_, rfl⟩
  have HBB := Lib.hid hbb
  go_upto_if 77 with fail
  clear hbb
  go_cut [8] from 78 to 116 (fun t8 wy => t8 = .int .i64 (n : Int) ∧ Hid (IsRd wy R s q 0 ∧ OnlyS [R] w wy ∧ wy.heap[w.heap.size]? = some (.cells #[.int .i64 0, .string ⟨#[]⟩, .slice none 0 0] 76 (0, 0))))
  case first =>
    rcases HH.out with ⟨h1, h2, h3⟩ | ⟨k, h1, h2, h3, h4, h5, h6, h7⟩
    · obtain rfl : bb = false := by rw [← HBB.out]; exact decide_eq_false (by have := HCB.out; omega)
      have HE := Lib.hid (show C = (n : Int) by have := HCB.out; omega)
      have HQ := Lib.hid h3
      clear h1 h2 h3
      go_wp2_with fail
      go_meet
      case rel => exact ⟨by rw [HE.out], by rw [HQ.out]; exact ⟨HI1.out, HO1.out, HN1.out⟩⟩
    · obtain rfl : bb = true := by rw [← HBB.out]; exact decide_eq_true (by have := HCB.out; omega)
      have hk8 : k ≤ 8 := by clear hti hwr hwr2; omega
      have hk9 : p + 2 + k ≤ s.size := by have := HFS.out; clear hti hwr hwr2; omega
      have HG : Hid (∀ u, Calls Try.prog 95 #[.string s, .int .i64 ((p + 2 : Nat) : Int), .int .i64 (k : Int)] u fun e w' => e = .returned (.tuple #[.int .u64 (n : Int), .bool true]) ∧ u = w') := Lib.hid (fun u => by
        have hg := rget_yes s (p + 2) k u HSS.out h1 hk8 hk9
        rw [← h5] at hg
        exact hg)
      have hc4 : C - 128 = (k : Int) := by have := HCB.out; omega
      have hfp : decide ((fin : Int) - ((p : Int) + 2) < (k : Int)) = false := decide_eq_false (by omega)
      have hwk : IntKind.i64.wrap (k : Int) = (k : Int) := IntWalk.i64_in _ (by omega)
      have hwk2 : wrap64 (k : Int) = (k : Int) := by simp only [wrap64]; omega
      have HK := Lib.hid h7
      clear h1 h2 h3 h4 h5 h6 h7
      obtain ⟨m0, m1, m2, f0, f1, f2⟩ := box_of HI1.out
      have hn1 : decide ((1048576 : Int) < (n : Int)) = false := decide_eq_false (by have := HQF.out.2; clear hti hwr hwr2 hwk hwk2; omega)
      have hn2 : wrap64 (n : Int) = (n : Int) := by have := HQF.out.2; clear hti hwr hwr2 hwk hwk2; simp only [wrap64]; omega
      go_upto_region 18 with fail
      go_quiet ((go_at_call 95; exact Calls.quiet_of_same ((HG.out _).mono fun _ _ ⟨h1, h2⟩ => ⟨h1, h2.symm⟩)))
      go_wp2_with fail
      go_meet
      case rel =>
        refine ⟨by rw [hn2], Lib.hid ⟨?_, (HO1.out.drewN _).setCell (by simp) _, (heap_setCell_other (w := wx.drewN nq) _ _ _ (fun e => HNE.out e.symm)).trans HN1.out⟩⟩
        unfold IsRd
        rw [heap_setCell_same (w := wx.drewN nq) _ _ _ _ _ HI1.out, HK.out]; rfl
  case rest =>
    obtain ⟨rfl, HY⟩ := hcut
    have hrd := HY.out.1
    have HOY := Lib.hid HY.out.2.1
    have HNY := Lib.hid HY.out.2.2
    have HIY := Lib.hid hrd
    obtain ⟨m0, m1, m2, f0, f1, f2⟩ := box_of hrd
    have hwf : wrap64 ((fin : Int) - (q : Int)) = (fin : Int) - (q : Int) := by have := HQF.out.1; have := HFS.out; have := HSS.out; clear hti hwr hwr2; simp only [wrap64]; omega
    by_cases hb : fin - q < n
    · have hz : decide ((fin : Int) - (q : Int) < (n : Int)) = true := decide_eq_true (by have := HQF.out.1; clear hti hwr hwr2 hwf; omega)
      have HF : Hid (Calls Try.prog 94 #[.pointer (some ⟨R, 0, none⟩), .int .i64 3] wc fun x w' => x = .returned (.agg #[.int .i64 0, .string ByteArray.empty, .slice none 0 0]) ∧ IsRd w' R s q 3 ∧ OnlyS [R] wc w') := Lib.hid (rfail_any hrd 3)
      have HL := Lib.hid (HL3.out hb)
      clear hb hrd
      go_wp2_with fail
      refine (HF.out).mono ?_
      rintro x w1 ⟨rfl, hrd, ho⟩
      have HE := Lib.hid (elem_failed hrd (HOY.out.trans ho) HLT.out (.int .i64 0) (.string ⟨#[]⟩) (.slice none 0 0))
      have hbx := (ho.block w.heap.size (lt_of_block HNY.out) (by have := HNE.out; simp; omega)).trans HNY.out
      obtain ⟨c0, c1, c2, f0, f1, f2⟩ := box_of hbx
      clear hrd ho hbx
      go_wp2_with fail
      refine bodyPost_ret (v := .agg #[.int .i64 0, .string ByteArray.empty, .slice none 0 0]) (by simp [results, Try.results83, go_sem, c0, c1, c2]) rfl ⟨HE.out.1, ?_⟩
      rw [show Mt.parseL (d + 1) l = .error 3 by simp [Mt.parseL, HL.out]]
      exact ⟨_, _, _, _, _, q, rfl, HE.out.2⟩
    · have hz : decide ((fin : Int) - (q : Int) < (n : Int)) = false := decide_eq_false (by have := HQF.out.1; clear hti hwr hwr2 hwf; omega)
      have hw3 : wrap64 ((q : Int) + (n : Int)) = (q : Int) + (n : Int) := by have := HQF.out; have := HFS.out; have := HSS.out; clear hti hwr hwr2 hwf; simp only [wrap64]; omega
      have HSTOP : Hid (q + n ≤ fin) := Lib.hid (by have := HQF.out.1; clear hti hwr hwr2 hwf hw3; omega)
      clear hb hrd
      go_upto_region 26 with fail
      rw [HTG.out]
      generalize hTg : (s[p]'(by omega)).toNat = tg at HTG HTB HLK ⊢
      obtain ⟨X, hX, hXl⟩ := HLK.out HSTOP.out
      have HX := Lib.hid hX
      have HXL := Lib.hid hXl
      have HTB' := Lib.hid HTB.out
      clear hX hXl hTg HTI hti HH HL3 HLK
      obtain ⟨b0, b1, b2, _, _, _⟩ := box_of (heap_alloc_new wc (.cells #[.int .i64 (tg : Int), .string ⟨#[]⟩, .slice none 0 0] 76))
      by_cases hcs : tg / 32 % 2 = 0
      · have hcd : ((wrap64 ((tg : Int) / 32)).tmod 2 == 0) = true := by rw [Mt.cons_test (by have := HTB'.out; clear hwr hwr2 hwf hw3; omega)]; exact decide_eq_true hcs
        have HCS := Lib.hid hcs
        have hs0 : (0 : Int) ≤ (q : Int) := by clear hwr hwr2 hwf hw3 hcd; omega
        have hs1 : (q : Int) ≤ (q : Int) + (n : Int) := by clear hwr hwr2 hwf hw3 hcd; omega
        have hs2 : (q : Int) + (n : Int) ≤ (s.size : Int) := by have := HSTOP.out; have := HFS.out; clear hwr hwr2 hwf hw3 hcd; omega
        have hs3 : ((q : Int) + (n : Int)).toNat = q + n := by clear hwr hwr2 hwf hw3 hcd; omega
        clear hcs
        go_upto_region 28 with fail
        go_region_held3 (fun w' => w'.cell? ⟨R, 0, none⟩ = some (.string s) ∧ w'.cell? ⟨R, 1, none⟩ = some (.int .i64 (q : Int)))
          (first
            | go_keep)
          (first
            | fail)
        have hlR : R < wc.heap.size := lt_of_block HIY.out
        have hlW : w.heap.size < wc.heap.size := lt_of_block HNY.out
        have hbz := ((Below.refl wc.heap.size wc).alloc (Nat.le_refl _) (.cells #[.int .i64 (tg : Int), .string (s.extract q (q + n)), .slice none 0 0] 76)).drew
        have HIZ := Lib.hid ((hbz.block R hlR).trans HIY.out)
        have HNZ := Lib.hid ((hbz.block w.heap.size hlW).trans HNY.out)
        have HOZ := Lib.hid ((HOY.out.alloc (.cells #[.int .i64 (tg : Int), .string (s.extract q (q + n)), .slice none 0 0] 76)).drew)
        have HVZ : Hid (((wc.alloc (.cells #[.int .i64 (tg : Int), .string (s.extract q (q + n)), .slice none 0 0] 76)).drew).heap[wc.heap.size]? = some (.cells #[.int .i64 (tg : Int), .string (s.extract q (q + n)), .slice none 0 0] 76 (0, 0))) := Lib.hid (heap_alloc_new wc _)
        clear b0 b1 b2 m0 m1 m2 f0 f1 f2 hbz
        generalize (wc.alloc (.cells #[.int .i64 (tg : Int), .string (s.extract q (q + n)), .slice none 0 0] 76)).drew = wz at *
        generalize wc.heap.size = N at *
        have hne1 : ¬ N = R := by clear hwr hwr2 hwf hw3 hcd; omega
        have hne2 : ¬ R = N := by clear hwr hwr2 hwf hw3 hcd; omega
        obtain ⟨m0, m1, m2, f0, f1, f2⟩ := box_of HIZ.out
        obtain ⟨b0, b1, b2, _, _, _⟩ := box_of HVZ.out
        obtain ⟨c0, c1, c2, e0, e1, e2⟩ := box_of HNZ.out
        have hne3 : ¬ w.heap.size = R := fun e => HNE.out e.symm
        have hne4 : ¬ R = w.heap.size := HNE.out
        have hne5 : ¬ N = w.heap.size := by clear hwr hwr2 hwf hw3 hcd; omega
        have hne6 : ¬ w.heap.size = N := by clear hwr hwr2 hwf hw3 hcd; omega
        have hz1 : IsRd (wz.setCell ⟨R, 1, none⟩ (.int .i64 ((q : Int) + (n : Int)))) R s (q + n) 0 := by
          unfold IsRd
          rw [heap_setCell_same (w := wz) _ _ _ _ _ HIZ.out]; rfl
        have HE := Lib.hid (elem_failed hz1 (HOZ.out.setCell (by simp) _) HLT.out (.int .i64 (tg : Int)) (.string (s.extract q (q + n))) (.slice none 0 0))
        clear hz1
        go_wp2_with fail
        refine bodyPost_ret (v := .agg #[.int .i64 (tg : Int), .string (s.extract q (q + n)), .slice none 0 0]) (by simp [results, Try.results83, go_sem, c0, c1, c2, e0, e1, e2, hne3, hne4]) rfl ⟨HE.out.1, ?_⟩
        rw [show Mt.parseL (d + 1) l = .ok (.mk (tg : Int) (Mt.sub s q (q + n)) [], X) by simp [Mt.parseL, HX.out, HCS.out]]
        refine ⟨_, rfl, ⟨none, 0, by rw [Mt.str_sub]; rfl, ?_, Nat.zero_le _, .inl rfl⟩, ?_⟩
        · show (Mt.sub s q (q + n)).length ≤ _
          have := HSS.out
          have := HSTOP.out
          have := HFS.out
          rw [Mt.sub, List.length_take]
          clear hwr hwr2 hwf hw3 hcd
          omega
        · rw [HXL.out, show fin - (fin - (q + n)) = q + n from Nat.sub_sub_self HSTOP.out]
          exact HE.out.2
      · have hcd : ((wrap64 ((tg : Int) / 32)).tmod 2 == 0) = false := by rw [Mt.cons_test (by have := HTB'.out; clear hwr hwr2 hwf hw3; omega)]; exact decide_eq_false hcs
        have HCS := Lib.hid hcs
        obtain ⟨st, hst⟩ : ∃ st, q + n = st := ⟨_, rfl⟩
        have hsi : (q : Int) + (n : Int) = (st : Int) := by clear hwr hwr2 hwf hw3 hcd; omega
        rw [hsi] at hw3 ⊢
        rw [hw3]
        have HW3 := Lib.hid hw3
        rw [hst] at HX HXL HSTOP
        have hlR : R < wc.heap.size := lt_of_block HIY.out
        have hlW : w.heap.size < wc.heap.size := lt_of_block HNY.out
        have hbz := (Below.refl wc.heap.size wc).alloc (Nat.le_refl _) (.cells #[.int .i64 (tg : Int), .string ⟨#[]⟩, .slice none 0 0] 76)
        have HST := Lib.hid hst
        have HKR : Hid (KidsR w R wc.heap.size s st d tg (Mt.sub s q st) (wc.alloc (.cells #[.int .i64 (tg : Int), .string ⟨#[]⟩, .slice none 0 0] 76))) := Lib.hid (by
          refine ⟨q, 0, none, 0, 0, (hbz.block R hlR).trans HIY.out, HOY.out.alloc _, (hbz.block _ hlW).trans HNY.out, heap_alloc_new wc _, .inl ⟨rfl, by have := HST.out; clear hwr hwr2 hwf hw3 hcd; omega, [], wc.heap.size + 1, [], rfl, (Mt.onto_nil _).symm, IsRw.nil _ _ _ _, AreNds.nil _ _ _, Nat.le_refl _, by have := HST.out; have := HQF.out.2; clear hwr hwr2 hwf hw3 hcd; simp; omega⟩⟩)
        have HLN := Lib.hid (And.intro hlR hlW)
        clear hcs hst hsi hw3 hwf hbz hz hlR hlW m0 m1 m2 f0 f1 f2 b0 b1 b2 hwr hwr2
        have hw3 := HW3.out
        go_wp2_with fail
        clear hw3
        generalize (wc.alloc (.cells #[.int .i64 (tg : Int), .string ⟨#[]⟩, .slice none 0 0] 76)) = wz at *
        generalize wc.heap.size = N at *
        go_loopw [] (fun wr => Hid (KidsR w R N s st d tg (Mt.sub s q st) wr)) (fun wr => rdMeas R st wr)
        case atStart => exact HKR
        case round =>
          obtain ⟨pk, bad, a, c, m, hrd, ho, hbx, hN, hinv⟩ := hrel.out
          obtain ⟨r0, r1, r2, g0, g1, g2⟩ := box_of hrd
          obtain ⟨d0, d1, d2, _, _, _⟩ := box_of hN
          obtain ⟨c0, c1, c2, e0, e1, e2⟩ := box_of hbx
          have hne1 : ¬ N = R := by have := HLN.out; omega
          have hne2 : ¬ R = N := by have := HLN.out; omega
          have hne3 : ¬ w.heap.size = R := fun e => HNE.out e.symm
          have hne4 : ¬ R = w.heap.size := HNE.out
          have hne5 : ¬ N = w.heap.size := by have := HLN.out; omega
          have hne6 : ¬ w.heap.size = N := by have := HLN.out; omega
          have HRD := Lib.hid hrd
          have HO := Lib.hid ho
          have HBX := Lib.hid hbx
          have HN := Lib.hid hN
          rcases hinv with ⟨hb0, hpk, done, g, xs, hm, hall, hrw, hnds, hg, hlen⟩ | ⟨hb, hall⟩
          · subst hb0 hm
            have r2' : wr.cell? ⟨R, 2, none⟩ = some (.int .i64 0) := r2
            have HALL := Lib.hid hall
            have HRW := Lib.hid hrw
            have HNDS := Lib.hid hnds
            have HG := Lib.hid hg
            have HLEN := Lib.hid hlen
            by_cases hlt : pk < st
            · have hz : decide ((pk : Int) < (st : Int)) = true := decide_eq_true (by omega)
              have hz2 : decide (pk < st) = true := decide_eq_true hlt
              have hsts : st ≤ s.size := by have := HSTOP.out; have := HFS.out; omega
              have hne : Mt.sub s pk st ≠ [] := by
                intro e
                have h9 := Mt.sub_length s pk st hsts
                rw [e] at h9
                simp at h9
                omega
              have hbd : Below wr.heap.size wr wr.drew := ⟨rfl, rfl, rfl, Nat.le_refl _, fun _ _ => rfl⟩
              have HC0 := Lib.hid (HKI.out wr.drew pk st ((hbd.block R (lt_of_block hrd)).trans hrd) hlt hsts)
              cases hp : Mt.parseL d (Mt.sub s pk st) with
              | error e =>
                have HC : Hid (Calls Try.prog 83 #[.pointer (some ⟨R, 0, none⟩), .int .i64 (st : Int), .int .i64 ((dep : Int) + 1)] wr.drew fun x w' => ∃ t D a m c p', x = .returned (.agg #[.int .i64 t, .string D, .slice a m c]) ∧ Hid (IsRd w' R s p' e ∧ OnlyS [R] wr w')) := Lib.hid (HC0.out.mono (by
                  rintro x u ⟨ho2, hx⟩
                  rw [hp] at hx
                  obtain ⟨t, D, a, m, c, p', rfl, hr⟩ := hx
                  exact ⟨_, _, _, _, _, _, rfl, hr, ⟨ho2.os, ho2.tape, ho2.output, ho2.size, ho2.block⟩⟩))
                have HK := Lib.hid (fun (w2 : World) (t : Int) (D : ByteArray) (a0 : Option Addr) (m0 c0 p' : Nat) (hh : IsRd w2 R s p' e ∧ OnlyS [R] wr w2) => kids_bad (x0 := .int .i64 t) (x1 := .string D) (x2 := .slice a0 m0 c0) (st := st) (d := d) (tg := tg) HLT.out HLN.out.2 ho hbx hN hrw hnds.2.1 hg (by omega) hall hne hp rfl rfl rfl hh.1 hh.2)
                clear hrd ho hbx hN hall hrw hnds hg hlen hlt hne hbd hp r2 hpk hcd hsts HC0
                have hwd2 := HWD2.out
                go_upto_region 32 with fail
                go_region_law (first
                  | (go_simp; go_at_call 83; go_must ((with_reducible refine (HC.out).mono ?_); (rintro x w2 ⟨t, D, a0, m0, c0, p', rfl, hbad⟩); (obtain ⟨a3, c3, w3, hrun, d2', hsz2, e3, f3, HX3⟩ := HK.out w2 t D a0 m0 c0 p' hbad.out); (clear hbad)))
                  | (go_must ((refine step_append_run rfl _ _ 74 74 rfl _ _ (by rfl) (by rfl) hrun ?_))))
                all_goals
                  have HT := Lib.hid HX3
                  clear hrun e3 f3 d2' HX3
                  generalize w3.setCell ⟨N, 2, none⟩ (.slice a3 (done.length + 1) c3) = u at *
                  go_wp2_with fail
                  go_roundw
                  case rel => exact Lib.hid HT.out.1
                  case measure => rw [HT.out.2, rdMeas_of HRD.out]; simp
              | ok v =>
                obtain ⟨n, r⟩ := v
                have HC : Hid (Calls Try.prog 83 #[.pointer (some ⟨R, 0, none⟩), .int .i64 (st : Int), .int .i64 ((dep : Int) + 1)] wr.drew fun x w' => ∃ t D a m c, x = .returned (.agg #[.int .i64 t, .string D, .slice a m c]) ∧ Hid (IsNd w' (fun b => wr.heap.size ≤ b) d (.agg #[.int .i64 t, .string D, .slice a m c]) n ∧ IsRd w' R s (st - r.length) 0 ∧ OnlyS [R] wr w')) := Lib.hid (HC0.out.mono (by
                  rintro x u ⟨ho2, hx⟩
                  rw [hp] at hx
                  obtain ⟨v, rfl, hv, hr⟩ := hx
                  obtain ⟨a, c, rfl⟩ := hv.form
                  exact ⟨_, _, _, _, _, rfl, hv, hr, ⟨ho2.os, ho2.tape, ho2.output, ho2.size, ho2.block⟩⟩))
                have HK := Lib.hid (fun (w2 : World) (t : Int) (D : ByteArray) (a0 : Option Addr) (m0 c0 : Nat) (hh : IsNd w2 (fun b => wr.heap.size ≤ b) d (.agg #[.int .i64 t, .string D, .slice a0 m0 c0]) n ∧ IsRd w2 R s (st - r.length) 0 ∧ OnlyS [R] wr w2) => kids_good (tg := tg) HLT.out HLN.out.2 ho hbx hN hrw hnds hg hlt hsts hlen hall hne hp hh.1 hh.2.1 hh.2.2)
                clear hrd ho hbx hN hall hrw hnds hg hlen hlt hne hbd hp r2 hpk hcd hsts HC0
                have hwd2 := HWD2.out
                go_upto_region 32 with fail
                go_region_law (first
                  | (go_simp; go_at_call 83; go_must ((with_reducible refine (HC.out).mono ?_); (rintro x w2 ⟨t, D, a0, m0, c0, rfl, hgood⟩); (obtain ⟨a3, c3, w3, hrun, d2', hsz2, e3, f3, HX3⟩ := HK.out w2 t D a0 m0 c0 hgood.out); (clear hgood)))
                  | (go_must (refine step_append_run rfl _ _ 74 74 rfl _ _ (by rfl) (by rfl) hrun ?_)))
                all_goals
                  have HT := Lib.hid HX3
                  clear hrun e3 f3 d2' HX3
                  generalize w3.setCell ⟨N, 2, none⟩ (.slice a3 (done.length + 1) c3) = u at *
                  go_wp2_with fail
                  go_roundw
                  case rel => exact Lib.hid HT.out.1
                  case measure => rw [rdMeas_of HRD.out, if_pos rfl]; exact HT.out.2
            · obtain rfl : pk = st := by omega
              have hsub : Mt.sub s pk pk = [] := by simp [Mt.sub]
              have hok : Mt.allL (Mt.parseL d) (Mt.sub s q pk).length (Mt.sub s q pk) = .ok done := by rw [hall, hsub]; simp [Mt.allL, Mt.onto]
              have HOK := Lib.hid hok
              obtain ⟨a4, c4, e4, hk4⟩ := kids_of hrw (ok := fun b => N + 1 ≤ b) hg (hnds.keep (fun b hb _ => hb.1) (fun _ _ _ => rfl)) rfl
              cases e4
              have HK4 := Lib.hid hk4
              have HE := Lib.hid (elem_failed hrd ho HLT.out (.int .i64 (tg : Int)) (.string ⟨#[]⟩) (.slice a done.length c))
              have hz : decide ((pk : Int) < (pk : Int)) = false := decide_eq_false (by omega)
              have hz2 : decide (pk < pk) = false := decide_eq_false (by omega)
              clear hrd ho hbx hN hall hrw hnds hg hlen hlt hsub hok hk4 r2 hpk hcd
              go_wp2_with fail
              refine bodyPost_ret (v := .agg #[.int .i64 (tg : Int), .string ⟨#[]⟩, .slice a done.length c]) (by simp [results, Try.results83, go_sem, c0, c1, c2, e0, e1, e2, hne3, hne4]) rfl ⟨HE.out.1, ?_⟩
              rw [show Mt.parseL (d + 1) l = .ok (.mk (tg : Int) [] done, X) by simp [Mt.parseL, HX.out, HCS.out, HOK.out]]
              refine ⟨_, rfl, ⟨a, c, rfl, Nat.zero_le _, ?_, ?_⟩, ?_⟩
              · show done.length ≤ _
                have := HLEN.out
                omega
              · have hne : ∀ b, N + 1 ≤ b → b ≠ w.heap.size := fun b hb => by have := HLN.out; omega
                refine HK4.out.imp (fun b hb _ => by have := HLN.out; show w.heap.size ≤ b; omega) (fun v n hr => IsNd.keep (fun b hb _ => by have := HLN.out; show w.heap.size ≤ b; omega) (fun b hb _ => ?_) (Nat.le_refl _) hr) (fun b hb _ => ?_)
                all_goals
                  rw [heap_setCell_other _ _ _ _ (hne b hb), heap_setCell_other _ _ _ _ (hne b hb), heap_setCell_other _ _ _ _ (hne b hb)]
              · rw [HXL.out, show fin - (fin - pk) = pk from Nat.sub_sub_self HSTOP.out]
                exact HE.out.2
          · have hbd : ((bad : Int) == 0) = false := beq_eq_false_iff_ne.2 (by omega)
            have HALL := Lib.hid hall
            have HE := Lib.hid (elem_failed hrd ho HLT.out (.int .i64 (tg : Int)) (.string ⟨#[]⟩) (.slice a m c))
            clear hrd ho hbx hN hall hb hcd
            by_cases hlt : pk < st
            · have hz : decide ((pk : Int) < (st : Int)) = true := decide_eq_true (by omega)
              have hz2 : decide (pk < st) = true := decide_eq_true hlt
              clear hlt
              go_wp2_with fail
              refine bodyPost_ret (v := .agg #[.int .i64 (tg : Int), .string ⟨#[]⟩, .slice a m c]) (by simp [results, Try.results83, go_sem, c0, c1, c2, e0, e1, e2, hne3, hne4]) rfl ⟨HE.out.1, ?_⟩
              rw [show Mt.parseL (d + 1) l = .error bad by simp [Mt.parseL, HX.out, HCS.out, HALL.out]]
              exact ⟨_, _, _, _, _, pk, rfl, HE.out.2⟩
            · have hz : decide ((pk : Int) < (st : Int)) = false := decide_eq_false (by omega)
              have hz2 : decide (pk < st) = false := decide_eq_false hlt
              clear hlt
              go_wp2_with fail
              refine bodyPost_ret (v := .agg #[.int .i64 (tg : Int), .string ⟨#[]⟩, .slice a m c]) (by simp [results, Try.results83, go_sem, c0, c1, c2, e0, e1, e2, hne3, hne4]) rfl ⟨HE.out.1, ?_⟩
              rw [show Mt.parseL (d + 1) l = .error bad by simp [Mt.parseL, HX.out, HCS.out, HALL.out]]
              exact ⟨_, _, _, _, _, pk, rfl, HE.out.2⟩
end Go.Proofs.Ytcijjblcoelabaa
