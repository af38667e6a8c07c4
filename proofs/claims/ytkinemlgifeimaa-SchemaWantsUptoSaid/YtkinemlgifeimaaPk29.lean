/-
  Some texts of one proof, one behind the other.
-/
import Derived.Test.YtkinemlgifeimaaPk28
set_option linter.unusedVariables false
set_option linter.unusedSimpArgs false

/-
  What must be there of classes and what may, as the document has it.
-/
namespace Go.Proofs.Ytkinemlgifeimaa
open Go.RowKit

set_option maxRecDepth 100000 in
set_option maxHeartbeats 8000000 in
theorem rwants13_any {tv cv v : Value} {s : Mt.Sc} {cs : List (List UInt8)} {w : World} (h : IsSc w tv cv s) (hv : IsNms w v cs) (hf : FitN cs) (hk0 : Mt.chk s = 0) :
    Calls Try.prog 22 #[.agg #[tv, cv], v] w fun e w' => ∃ a b, e = .returned (.tuple #[a, b]) ∧ IsNms w' a (Mt.wantsS s cs).1 ∧ IsNms w' b (Mt.wantsS s cs).2 ∧ Below w.heap.size w w' := by
  have HCH := Lib.hid (fun (n : List UInt8) (hn : n.length ≤ 140737488351232) (u : World) (hb : Below w.heap.size w u) => rchain13_any n hn (h.below hb) hk0)
  have HCA := Lib.hid (fun (n : List UInt8) (hn : n.length ≤ 140737488351232) (u : World) (hb : Below w.heap.size w u) => rClAt_any (h.below hb) n hn)
  have HCL := Lib.hid (fun n => And.intro (Mt.chain_len s n) (Mt.chain_lt s n))
  have HAT := Lib.hid (fun i hi => Mt.chk_at hk0 i hi)
  have HTI := Lib.hid (Mt.lists_in (Mt.chk_names hk0) cs)
  have HTL : Hid ((s.types.map fun t => Mt.foldL t.name).length ≤ 128) := Lib.hid (by rw [List.length_map]; exact (Mt.chk_len hk0).1)
  have hcl := (Mt.chk_len hk0).2
  have HFN := Lib.hid hf.2
  have hcn := hf.1
  have HCM := Lib.hid h.cnm
  obtain ⟨ta, tcap, hv1, -, -⟩ := h.types
  obtain ⟨ca, ccap, hv2, hcc, HCS⟩ := h.classes
  obtain ⟨va, vcap, rfl, hvc, HV⟩ := hv
  obtain ⟨tn, htn⟩ : ∃ n, s.types.length = n := ⟨_, rfl⟩
  obtain ⟨m, hm⟩ : ∃ n, s.classes.length = n := ⟨_, rfl⟩
  obtain ⟨nc, hnc⟩ : ∃ n, cs.length = n := ⟨_, rfl⟩
  have HMM := Lib.hid (And.intro hm hnc)
  rw [htn] at hv1
  rw [hm] at hv2 hcc hcl
  rw [hnc] at hvc hcn ⊢
  subst hv1 hv2
  obtain ⟨w1, hw1⟩ : ∃ w1, w.alloc (.cells #[.slice ta tn tcap, .slice ca m ccap] 25) = w1 := ⟨_, rfl⟩
  have hA1 : Below w.heap.size w w1 := by rw [← hw1]; exact (Below.refl _ w).alloc (Nat.le_refl _) _
  have hs1 : w1.heap.size = w.heap.size + 1 := by rw [← hw1]; simp
  have hx1 : w1.heap[w.heap.size]? = some (.cells #[.slice ta tn tcap, .slice ca m ccap] 25) := by rw [← hw1]; exact heap_alloc_new w _
  have HP : Hid (∀ u, Below w1.heap.size w1 u → (u.cell? ⟨w.heap.size, 0, none⟩ = some (.slice ta tn tcap) ∧ u.cell? ⟨w.heap.size, 1, none⟩ = some (.slice ca m ccap)) ∧ Below w.heap.size w u) := Lib.hid (fun u hu => by
    have r1 := (hu.block w.heap.size (by omega)).trans hx1
    exact ⟨⟨by rw [cell_of_row _ _ _ _ _ _ r1]; rfl, by rw [cell_of_row _ _ _ _ _ _ r1]; rfl⟩, hA1.trans (hu.mono hA1.size)⟩)
  clear h hf hk0 hx1 hA1 htn hm hnc
  go_enter Try.func22, Try.ntmps22
  go_wp2_with fail
  go_loopw [6, 7, 22] (fun mv av iv wr => ∃ (i : Nat) (a1 : Option Addr) (n1 c1 : Nat) (a2 : Option Addr) (n2 c2 : Nat), i ≤ nc ∧ iv = .int .i64 (i : Int) ∧ mv = .slice a1 n1 c1 ∧ av = .slice a2 n2 c2 ∧ Hid (StN wr (.slice a1 n1 c1) (Mt.mustI s (Mt.idxs s (cs.take i)))) ∧ Hid (StN wr (.slice a2 n2 c2) (Mt.mayI s (Mt.idxs s (cs.take i)))) ∧ Hid (Below w1.heap.size w1 wr)) (fun _ _ iv _ => nc - (intOf iv).toNat)
  case atStart => exact ⟨0, none, 0, 0, none, 0, 0, Nat.zero_le _, rfl, rfl, rfl, Lib.hid (by simpa [Mt.idxs, Mt.mustI] using StN.nil w1), Lib.hid (by simpa [Mt.idxs, Mt.mayI] using StN.nil w1), Lib.hid (Below.refl _ _)⟩
  case round =>
    obtain ⟨i, a1, n1, c1, a2, n2, c2, hi, rfl, rfl, rfl, HM, HY, HW⟩ := hrel
    obtain ⟨⟨p0, p1⟩, hB⟩ := HP.out wr HW.out
    have HB := Lib.hid hB
    clear hB
    by_cases hlt : i < nc
    · have e1 : decide ((i : Int) < (nc : Int)) = true := decide_eq_true (by omega)
      have e2 : decide (i < nc) = true := decide_eq_true hlt
      have hil : i < cs.length := by rw [HMM.out.2]; exact hlt
      obtain ⟨b, off, e0, hbl, hc0⟩ := HV.out i hil
      subst e0
      have x0 := (HB.out.cell (p := ⟨b, off + i, none⟩) hbl).trans hc0
      have i0 : (0 : Int) ≤ (i : Int) := by omega
      have i1 : (i : Int) < (nc : Int) := by omega
      have HSTEP := Lib.hid (Mt.idxs_step s hil)
      have hnl := HFN.out _ (List.getElem_mem hil)
      obtain ⟨P0, hP0⟩ : ∃ l, Mt.idxs s (cs.take i) = l := ⟨_, rfl⟩
      have HSUB : Hid (∀ (j : Nat), ∀ x, x ∈ Mt.mustI s (P0 ++ (Mt.chain s cs[i]).take j) ∨ x ∈ Mt.mayI s (P0 ++ (Mt.chain s cs[i]).take j) → x ∈ s.types.map fun t => Mt.foldL t.name) := Lib.hid (fun j x hx => by
        refine HTI.out x ?_
        have hsub : ∀ y ∈ P0 ++ (Mt.chain s cs[i]).take j, y ∈ Mt.idxs s cs := fun y hy => by
          rw [← hP0] at hy
          unfold Mt.idxs at *
          rcases List.mem_append.1 hy with hy | hy
          · obtain ⟨q, hq, hqy⟩ := List.mem_flatMap.1 hy
            exact List.mem_flatMap.2 ⟨q, List.mem_of_mem_take hq, hqy⟩
          · exact List.mem_flatMap.2 ⟨_, List.getElem_mem hil, List.mem_of_mem_take hy⟩
        unfold Mt.mustI Mt.mayI at *
        rcases hx with hx | hx
        · obtain ⟨q, hq, hqx⟩ := List.mem_flatMap.1 hx
          exact .inl (List.mem_flatMap.2 ⟨q, hsub q hq, hqx⟩)
        · obtain ⟨q, hq, hqx⟩ := List.mem_flatMap.1 hx
          exact .inr (List.mem_flatMap.2 ⟨q, hsub q hq, hqx⟩))
      rw [hP0] at HM HY HSTEP
      generalize cs[i] = nm at *
      have HC := Lib.hid (HCH.out nm hnl)
      obtain ⟨hll, hlc⟩ := HCL.out nm
      rw [HMM.out.1] at hll
      have hCN : Mt.chainN s nm = (Mt.chain s nm).map fun (i : Nat) => (Mt.clI s (i : Int)).name := rfl
      obtain ⟨CC, hCC⟩ : ∃ l, Mt.chain s nm = l := ⟨_, rfl⟩
      rw [hCC] at hll hlc HSTEP hCN HSUB
      have HLC := Lib.hid hlc
      obtain ⟨NM, hNM⟩ : ∃ x, Mt.str nm = x := ⟨_, rfl⟩
      rw [hNM] at x0 HC
      rw [hCN] at HC
      clear hbl hc0 hnl hlc hCN hCC hNM hP0 hil
      go_wp2_with fail
      refine (HC.out _ HB.out).mono ?_
      rintro e w2 ⟨cv2, rfl, hown, hb⟩
      have HCNM := Lib.hid (IsOwn.nms hown)
      have HM2 := Lib.hid (HM.out.below (hb.mono (Nat.le_refl _)))
      have HY2 := Lib.hid (HY.out.below (hb.mono (Nat.le_refl _)))
      have HW2 := Lib.hid (HW.out.trans (hb.mono HW.out.size))
      clear hb hown p0 p1 x0 HC
      obtain ⟨xa, xc, rfl, hxc, HX⟩ := id HCNM.out
      obtain ⟨lc, hlc⟩ : ∃ l, CC.length = l := ⟨_, rfl⟩
      have HCC := Lib.hid hlc
      rw [hlc] at hll
      simp only [List.length_map, hlc] at hxc ⊢
      clear hlc
      go_wp2_with fail
      obtain ⟨wo, rfl⟩ : ∃ wo, wo = wr := ⟨_, rfl⟩
      go_loopw [6, 7, 30] (fun mv av jv wy => ∃ (j : Nat) (a1 : Option Addr) (n1 c1 : Nat) (a2 : Option Addr) (n2 c2 : Nat), j ≤ lc ∧ jv = .int .i64 (j : Int) ∧ mv = .slice a1 n1 c1 ∧ av = .slice a2 n2 c2 ∧ Hid (StN wy (.slice a1 n1 c1) (Mt.mustI s (P0 ++ CC.take j))) ∧ Hid (StN wy (.slice a2 n2 c2) (Mt.mayI s (P0 ++ CC.take j))) ∧ Hid (Below w2.heap.size w2 wy)) (fun _ _ jv _ => lc - (intOf jv).toNat)
      case atStart => exact ⟨0, a1, n1, c1, a2, n2, c2, Nat.zero_le _, rfl, rfl, rfl, Lib.hid (by simpa using HM2.out), Lib.hid (by simpa using HY2.out), Lib.hid (Below.refl _ _)⟩
      case round =>
        obtain ⟨j, a1, n1, c1, a2, n2, c2, hj, rfl, rfl, rfl, HM, HY, HR⟩ := hrel
        have HWr := Lib.hid (HW2.out.trans (HR.out.mono HW2.out.size))
        obtain ⟨⟨p0, p1⟩, hB⟩ := HP.out wr HWr.out
        have HBr := Lib.hid hB
        clear hB
        by_cases hlt2 : j < lc
        · have f1 : decide ((j : Int) < (lc : Int)) = true := decide_eq_true (by omega)
          have f2 : decide (j < lc) = true := decide_eq_true hlt2
          have hjl : j < CC.length := by rw [HCC.out]; exact hlt2
          obtain ⟨b2, off2, e02, hbl2, hc2⟩ := HX.out j (by rw [List.length_map]; exact hjl)
          subst e02
          rw [List.getElem_map] at hc2
          have x0 := (HR.out.cell (p := ⟨b2, off2 + j, none⟩) hbl2).trans hc2
          have k0 : (0 : Int) ≤ (j : Int) := by omega
          have k1 : (j : Int) < (lc : Int) := by omega
          have hpl := HLC.out _ (List.getElem_mem hjl)
          have hms := Mt.mustI_step s hjl
          have hys := Mt.mayI_step s hjl
          have htk := List.take_succ_eq_append_getElem hjl
          obtain ⟨p, hp⟩ : ∃ p, CC[j] = p := ⟨_, rfl⟩
          rw [hp] at x0 hpl hms hys htk
          have hat := HAT.out p hpl
          rw [Mt.clI_get hpl] at x0 hms hys hat
          obtain ⟨b, off, mv, yv, e1', hbl3, h0, h1, h2, h3, h4, hmv, hyv⟩ := HCS.out p hpl
          have hcm := HCM.out _ (List.getElem_mem hpl)
          subst e1'
          have hpm : p < m := by rw [← HMM.out.1]; exact hpl
          have HCAc := Lib.hid (HCA.out s.classes[p].name hcm.1)
          obtain ⟨c, hc⟩ : ∃ c, s.classes[p] = c := ⟨_, rfl⟩
          rw [hc] at x0 hms hys hat h0 h1 h2 hmv hyv hcm HCAc
          rw [hat] at HCAc
          obtain ⟨am, cm, rfl, -, -⟩ := id hmv
          obtain ⟨ay, cy, rfl, -, -⟩ := id hyv
          obtain ⟨NC, hNC⟩ : ∃ x, Mt.str c.name = x := ⟨_, rfl⟩
          rw [hNC] at x0 h0 HCAc
          have HMV := Lib.hid (fun (u : World) (hb : Below w.heap.size w u) => And.intro (hmv.below hb) (hyv.below hb))
          have HSS : Hid (∀ u, Below wr.heap.size wr u → u.cell? ⟨w.heap.size, 1, none⟩ = some (.slice (some ⟨b, off, none⟩) m ccap) ∧ u.cell? ⟨b, off + p * 5, none⟩ = some (.string NC) ∧ u.cell? ⟨b, off + p * 5 + 1, none⟩ = some (.string (Mt.str c.sup)) ∧ u.cell? ⟨b, off + p * 5 + 2, none⟩ = some (.int .i64 c.kind) ∧ u.cell? ⟨b, off + p * 5 + 3, none⟩ = some (.slice am c.must.length cm) ∧ u.cell? ⟨b, off + p * 5 + 4, none⟩ = some (.slice ay c.may.length cy)) := Lib.hid (fun u hu => by
            have hw := HBr.out.trans (hu.mono HBr.out.size)
            have hw2 := HWr.out.trans (hu.mono HWr.out.size)
            exact ⟨(HP.out u hw2).1.2, (hw.cell (p := ⟨b, _, none⟩) hbl3).trans h0, (hw.cell (p := ⟨b, _, none⟩) hbl3).trans h1, (hw.cell (p := ⟨b, _, none⟩) hbl3).trans h2, (hw.cell (p := ⟨b, _, none⟩) hbl3).trans h3, (hw.cell (p := ⟨b, _, none⟩) hbl3).trans h4⟩)
          have HCP : Hid (Mt.clI s ((p : Nat) : Int) = c) := Lib.hid (by rw [Mt.clI_get hpl, hc])
          have HFACTS := Lib.hid (And.intro hms (And.intro hys (And.intro htk hcm)))
          obtain ⟨U, hU⟩ : ∃ x, Mt.str c.sup = x := ⟨_, rfl⟩
          obtain ⟨kc, hkc⟩ : ∃ x, c.kind = x := ⟨_, rfl⟩
          obtain ⟨ml, hml⟩ : ∃ x, c.must.length = x := ⟨_, rfl⟩
          obtain ⟨yl, hyl⟩ : ∃ x, c.may.length = x := ⟨_, rfl⟩
          rw [hU, hkc, hml, hyl] at HSS
          rw [hml, hyl] at HMV
          have HLL := Lib.hid (And.intro hml hyl)
          have q0 : (0 : Int) ≤ (p : Int) := by omega
          have q1 : (p : Int) < (m : Int) := by omega
          clear h0 h1 h2 h3 h4 hbl2 hbl3 hc2 hmv hyv hcm hms hys htk hpl hat hp hc hjl hNC hU hkc hml hyl p0 p1
          obtain ⟨p1, s0, s1, s2, s3, s4⟩ := HSS.out wr (Below.refl _ _)
          go_upto_region 8 with fail
          go_cut [13, 30] from 30 to 66 (fun t13 t30 wx => t30 = .int .i64 (j : Int) ∧ ∃ G, t13 = .pointer (some ⟨G, 0, none⟩) ∧ Hid (wx.heap[G]? = some (.cells #[.string NC, .string U, .int .i64 kc, .slice am ml cm, .slice ay yl cy] 31)) ∧ Hid (wr.heap.size ≤ G) ∧ Hid (Below wr.heap.size wr wx))
          case first =>
            have HBd := Lib.hid HBr.out.drew
            have HYd : Hid (Below wr.heap.size wr wr.drew) := Lib.hid (Below.refl _ wr).drew
            have hza : Below wr.heap.size wr (wr.alloc (.cells #[.string ⟨#[]⟩, .string ⟨#[]⟩, .int .i64 0, .slice none 0 0, .slice none 0 0] 31)).drew := ((Below.refl _ wr).alloc (Nat.le_refl _) _).drew
            have HYa := Lib.hid hza
            have HBa := Lib.hid (HBr.out.trans (hza.mono HBr.out.size))
            have HRa : Hid ((wr.alloc (.cells #[.string ⟨#[]⟩, .string ⟨#[]⟩, .int .i64 0, .slice none 0 0, .slice none 0 0] 31)).drew.heap[wr.heap.size]? = some (.cells #[.string ⟨#[]⟩, .string ⟨#[]⟩, .int .i64 0, .slice none 0 0, .slice none 0 0] 31)) := Lib.hid (heap_alloc_new wr _)
            clear hza
            go_region_held3 (fun w' => w'.cell? ⟨w.heap.size, 1, none⟩ = some (.slice (some ⟨b, off, none⟩) m ccap) ∧ w'.cell? ⟨b, off + p * 5, none⟩ = some (.string NC) ∧ w'.cell? ⟨b, off + p * 5 + 1, none⟩ = some (.string U) ∧ w'.cell? ⟨b, off + p * 5 + 2, none⟩ = some (.int .i64 kc) ∧ w'.cell? ⟨b, off + p * 5 + 3, none⟩ = some (.slice am ml cm) ∧ w'.cell? ⟨b, off + p * 5 + 4, none⟩ = some (.slice ay yl cy))
              (first
                | with_reducible exact HSS.out _ HYd.out
                | with_reducible exact HSS.out _ HYa.out
                | with_reducible exact HSS.out _ HY5.out
                | with_reducible exact HSS.out _ (HY5.out.alloc HY5.out.size _)
                | exact HSS.out _ (HY5.out.alloc HY5.out.size _)
                | exact HSS.out _ (((((HY5.out.setCell (p := ⟨wr.heap.size, 0, none⟩) (Nat.le_refl _) _).setCell (p := ⟨wr.heap.size, 1, none⟩) (Nat.le_refl _) _).setCell (p := ⟨wr.heap.size, 2, none⟩) (Nat.le_refl _) _).setCell (p := ⟨wr.heap.size, 3, none⟩) (Nat.le_refl _) _).setCell (p := ⟨wr.heap.size, 4, none⟩) (Nat.le_refl _) _)
                | go_keep)
              (first
                | (go_at_call 16; (with_reducible refine (HCAc.out _ HBd.out).mono ?_); rintro e w5 ⟨rfl, hb⟩; have HY5 := Lib.hid (HYd.out.trans (hb.mono HYd.out.size)); have HR5 : Hid (w5.heap[w5.heap.size]? = none) := Lib.hid (by simp); clear hb)
                | (go_at_call 16; (with_reducible refine (HCAc.out _ HBa.out).mono ?_); rintro e w5 ⟨rfl, hb⟩; have HY5 := Lib.hid (HYa.out.trans (hb.mono HYa.out.size)); have HR5 := Lib.hid ((hb.block _ (lt_of_block HRa.out)).trans HRa.out); obtain ⟨⟨g0, g1, g2, g3, g4⟩, h0, h1, h2, h3, h4⟩ := box5_of HR5.out; clear hb))
            · go_wp2_with fail
              go_meet
              case rel => exact ⟨rfl, w5.heap.size, rfl, Lib.hid (heap_alloc_new w5 _), Lib.hid HY5.out.size, Lib.hid (HY5.out.alloc HY5.out.size _)⟩
            · have r9 := row5_set HR5.out (.string NC) (.string U) (.int .i64 kc) (.slice am ml cm) (.slice ay yl cy)
              have b9 : Below wr.heap.size wr (((((w5.setCell ⟨wr.heap.size, 0, none⟩ (.string NC)).setCell ⟨wr.heap.size, 1, none⟩ (.string U)).setCell ⟨wr.heap.size, 2, none⟩ (.int .i64 kc)).setCell ⟨wr.heap.size, 3, none⟩ (.slice am ml cm)).setCell ⟨wr.heap.size, 4, none⟩ (.slice ay yl cy)) := ((((HY5.out.setCell (p := ⟨wr.heap.size, 0, none⟩) (Nat.le_refl _) _).setCell (p := ⟨wr.heap.size, 1, none⟩) (Nat.le_refl _) _).setCell (p := ⟨wr.heap.size, 2, none⟩) (Nat.le_refl _) _).setCell (p := ⟨wr.heap.size, 3, none⟩) (Nat.le_refl _) _).setCell (p := ⟨wr.heap.size, 4, none⟩) (Nat.le_refl _) _
              have R9 := Lib.hid r9
              have B9 := Lib.hid b9
              clear r9 b9
              go_wp2_with fail
              go_meet
              case rel => exact ⟨rfl, wr.heap.size, rfl, R9, Lib.hid (Nat.le_refl _), B9⟩
          case rest =>
            obtain ⟨rfl, G, rfl, HRG, HG, HYX⟩ := hcut
            generalize wc = wx at *
            have HWX := Lib.hid (HWr.out.trans (HYX.out.mono HWr.out.size))
            have HBX := Lib.hid (HBr.out.trans (HYX.out.mono HBr.out.size))
            have HMX := Lib.hid (HM.out.below HYX.out)
            have HYY := Lib.hid (HY.out.below HYX.out)
            have HRX := Lib.hid (HR.out.trans (HYX.out.mono HR.out.size))
            have HZ : Hid (∀ u, Below wx.heap.size wx u → u.cell? ⟨G, 3, none⟩ = some (.slice am ml cm) ∧ u.cell? ⟨G, 4, none⟩ = some (.slice ay yl cy)) := Lib.hid (fun u hu => by
              obtain ⟨⟨-, -, -, z3, z4⟩, -⟩ := box5_of ((hu.block _ (lt_of_block HRG.out)).trans HRG.out)
              exact ⟨z3, z4⟩)
            clear p1 s0 s1 s2 s3 s4 x0 HM HY HSS HRG HG HYX
            obtain ⟨z3, z4⟩ := HZ.out wx (Below.refl _ _)
            have hmlb : ml ≤ 8796093022208 := by rw [← HLL.out.1]; exact HFACTS.out.2.2.2.2.2.1
            have hylb : yl ≤ 8796093022208 := by rw [← HLL.out.2]; exact HFACTS.out.2.2.2.2.2.2.1
            go_wp2_with fail
            go_loopw [6, 45] (fun mv qv wy => ∃ (q : Nat) (a : Option Addr) (n c' : Nat), q ≤ ml ∧ qv = .int .i64 (q : Int) ∧ mv = .slice a n c' ∧ Hid (StN wy (.slice a n c') (Mt.mustI s (P0 ++ CC.take j) ++ (c.must.take q).map Mt.foldL)) ∧ Hid (Below wx.heap.size wx wy)) (fun _ qv _ => ml - (intOf qv).toNat)
            case atStart => exact ⟨0, a1, n1, c1, Nat.zero_le _, rfl, rfl, Lib.hid (by simpa using HMX.out), Lib.hid (Below.refl _ _)⟩
            case round =>
              obtain ⟨q, a3, n3, c3, hq, rfl, rfl, HS, HQ⟩ := hrel
              have HBq := Lib.hid (HBX.out.trans (HQ.out.mono HBX.out.size))
              by_cases hlt3 : q < ml
              · have f3 : decide ((q : Int) < (ml : Int)) = true := decide_eq_true (by omega)
                have f4 : decide (q < ml) = true := decide_eq_true hlt3
                have hql : q < c.must.length := by rw [HLL.out.1]; exact hlt3
                obtain ⟨a9, c9, e9, hc9, hcell9⟩ := (HMV.out _ HBq.out).1
                have ea : am = a9 := by injection e9
                subst ea
                obtain ⟨b8, off8, e8, hbl8, hy8⟩ := hcell9.out q hql
                subst e8
                have m0 : (0 : Int) ≤ (q : Int) := by omega
                have m1 : (q : Int) < (ml : Int) := by omega
                have htk := List.take_succ_eq_append_getElem hql
                have hnl : c.must[q].length ≤ 140737488351232 := HFACTS.out.2.2.2.2.2.2.2.1 _ (List.getElem_mem hql)
                have HFF := Lib.hid (fun u => rfold_any (Mt.str c.must[q]) u (by rw [Mt.str_size]; exact hnl))
                rw [Mt.str_data] at HFF
                have HSP := Lib.hid (fun (u : World) (hb : Below wr.heap.size wr u) => (HS.out.below hb).put (T := s.types.map fun t => Mt.foldL t.name) (fun x hx => HSUB.out (j + 1) x (.inl (by
                  have e := HFACTS.out.1
                  rw [HFACTS.out.2.2.1, ← List.append_assoc, Mt.mustI_app, List.mem_append]
                  rcases List.mem_append.1 hx with hx | hx
                  · exact .inl hx
                  · obtain ⟨y, hy, rfl⟩ := List.mem_map.1 hx
                    refine .inr ?_
                    simp only [Mt.mustI, List.flatMap_cons, List.flatMap_nil, List.append_nil]
                    rw [HCP.out]
                    exact List.mem_map.2 ⟨y, List.mem_of_mem_take hy, rfl⟩))) (Nat.le_trans HTL.out (by decide)) (Mt.foldL c.must[q]))
                have HL2 : Hid ((c.must.take (q + 1)).map Mt.foldL = (c.must.take q).map Mt.foldL ++ [Mt.foldL c.must[q]]) := Lib.hid (by rw [htk, List.map_append]; rfl)
                have hfo : c.must[q].map Mt.sm = Mt.foldL c.must[q] := rfl
                rw [hfo] at HFF
                generalize c.must[q] = t at *
                obtain ⟨TB, hTB⟩ : ∃ x, Mt.str t = x := ⟨_, rfl⟩
                obtain ⟨FB, hFB⟩ : ∃ x, Mt.str (Mt.foldL t) = x := ⟨_, rfl⟩
                rw [hTB] at hy8 HFF
                rw [hFB] at HFF HSP
                clear hnl htk hTB hFB hbl8 hc9 hcell9 e9 hql hfo
                go_wp2_with fail
                refine (HFF.out _).mono ?_
                rintro e w7 ⟨rfl, hb⟩
                have HQ7 := Lib.hid (HQ.out.trans (hb.mono HQ.out.size))
                have HP7 := Lib.hid (HSP.out _ hb)
                clear hb hy8
                go_wp2_with fail
                refine (HP7.out).mono ?_
                rintro e w8 ⟨a5, n5, c5, rfl, hs8, hb⟩
                have HS8 : Hid (StN w8 (.slice a5 n5 c5) (Mt.mustI s (P0 ++ CC.take j) ++ (c.must.take (q + 1)).map Mt.foldL)) := Lib.hid (by rw [HL2.out, ← List.append_assoc]; exact hs8)
                have HQ8 := Lib.hid (HQ7.out.trans (hb.mono HQ7.out.size))
                clear hb hs8
                go_wp2_with fail
                go_roundw
                case rel => exact ⟨q + 1, a5, n5, c5, by omega, by go_num, rfl, HS8, HQ8⟩
                case measure => simp [intOf]; omega
              · obtain rfl : q = ml := by omega
                have f3 : decide ((q : Int) < (q : Int)) = false := decide_eq_false (by omega)
                have f4 : decide (q < q) = false := decide_eq_false (by omega)
                have hall : c.must.take q = c.must := List.take_of_length_le (by rw [HLL.out.1]; exact Nat.le_refl _)
                have HM9 : Hid (StN wr (.slice a3 n3 c3) (Mt.mustI s (P0 ++ CC.take (j + 1)))) := Lib.hid (by
                  have h9 := HS.out
                  rw [hall] at h9
                  rw [HFACTS.out.2.2.1, ← List.append_assoc, Mt.mustI_app]
                  simp only [Mt.mustI, List.flatMap_cons, List.flatMap_nil, List.append_nil] at h9 ⊢
                  rw [HCP.out]; exact h9)
                have HY9 := Lib.hid (HYY.out.below HQ.out)
                have HR9 := Lib.hid (HRX.out.trans (HQ.out.mono HRX.out.size))
                have HBK := HBq
                obtain ⟨-, z4⟩ := HZ.out wr HQ.out
                clear hall HS z3 HYY HMX
                obtain ⟨wk, rfl⟩ : ∃ wk, wk = wr := ⟨_, rfl⟩
                go_wp2_with fail
                go_loopw [7, 57] (fun mv qv wy => ∃ (q : Nat) (a : Option Addr) (n c' : Nat), q ≤ yl ∧ qv = .int .i64 (q : Int) ∧ mv = .slice a n c' ∧ Hid (StN wy (.slice a n c') (Mt.mayI s (P0 ++ CC.take j) ++ (c.may.take q).map Mt.foldL)) ∧ Hid (Below wk.heap.size wk wy)) (fun _ qv _ => yl - (intOf qv).toNat)
                case atStart => exact ⟨0, a2, n2, c2, Nat.zero_le _, rfl, rfl, Lib.hid (by simpa using HY9.out), Lib.hid (Below.refl _ _)⟩
                case round =>
                  obtain ⟨q, a6, n6, c6, hq, rfl, rfl, HT4, HK⟩ := hrel
                  have HBr2 := Lib.hid (HBK.out.trans (HK.out.mono HBK.out.size))
                  by_cases hlt3 : q < yl
                  · have f3 : decide ((q : Int) < (yl : Int)) = true := decide_eq_true (by omega)
                    have f4 : decide (q < yl) = true := decide_eq_true hlt3
                    have hql : q < c.may.length := by rw [HLL.out.2]; exact hlt3
                    obtain ⟨a9, c9, e9, hc9, hcell9⟩ := (HMV.out _ HBr2.out).2
                    have ea : ay = a9 := by injection e9
                    subst ea
                    obtain ⟨b8, off8, e8, hbl8, hy8⟩ := hcell9.out q hql
                    subst e8
                    have m0 : (0 : Int) ≤ (q : Int) := by omega
                    have m1 : (q : Int) < (yl : Int) := by omega
                    have htk := List.take_succ_eq_append_getElem hql
                    have hnl : c.may[q].length ≤ 140737488351232 := HFACTS.out.2.2.2.2.2.2.2.2 _ (List.getElem_mem hql)
                    have HFF := Lib.hid (fun u => rfold_any (Mt.str c.may[q]) u (by rw [Mt.str_size]; exact hnl))
                    rw [Mt.str_data] at HFF
                    have HSP := Lib.hid (fun (u : World) (hb : Below wr.heap.size wr u) => (HT4.out.below hb).put (T := s.types.map fun t => Mt.foldL t.name) (fun x hx => HSUB.out (j + 1) x (.inr (by
                      have e := HFACTS.out.2.1
                      rw [HFACTS.out.2.2.1, ← List.append_assoc, Mt.mayI_app, List.mem_append]
                      rcases List.mem_append.1 hx with hx | hx
                      · exact .inl hx
                      · obtain ⟨y, hy, rfl⟩ := List.mem_map.1 hx
                        refine .inr ?_
                        simp only [Mt.mayI, List.flatMap_cons, List.flatMap_nil, List.append_nil]
                        rw [HCP.out]
                        exact List.mem_map.2 ⟨y, List.mem_of_mem_take hy, rfl⟩))) (Nat.le_trans HTL.out (by decide)) (Mt.foldL c.may[q]))
                    have HL2 : Hid ((c.may.take (q + 1)).map Mt.foldL = (c.may.take q).map Mt.foldL ++ [Mt.foldL c.may[q]]) := Lib.hid (by rw [htk, List.map_append]; rfl)
                    have hfo : c.may[q].map Mt.sm = Mt.foldL c.may[q] := rfl
                    rw [hfo] at HFF
                    generalize c.may[q] = t at *
                    obtain ⟨TB, hTB⟩ : ∃ x, Mt.str t = x := ⟨_, rfl⟩
                    obtain ⟨FB, hFB⟩ : ∃ x, Mt.str (Mt.foldL t) = x := ⟨_, rfl⟩
                    rw [hTB] at hy8 HFF
                    rw [hFB] at HFF HSP
                    clear hnl htk hTB hFB hbl8 hc9 hcell9 e9 hql hfo
                    go_wp2_with fail
                    refine (HFF.out _).mono ?_
                    rintro e w7 ⟨rfl, hb⟩
                    have HK7 := Lib.hid (HK.out.trans (hb.mono HK.out.size))
                    have HP7 := Lib.hid (HSP.out _ hb)
                    clear hb hy8
                    go_wp2_with fail
                    refine (HP7.out).mono ?_
                    rintro e w8 ⟨a5, n5, c5, rfl, hs8, hb⟩
                    have HS8 : Hid (StN w8 (.slice a5 n5 c5) (Mt.mayI s (P0 ++ CC.take j) ++ (c.may.take (q + 1)).map Mt.foldL)) := Lib.hid (by rw [HL2.out, ← List.append_assoc]; exact hs8)
                    have HK8 := Lib.hid (HK7.out.trans (hb.mono HK7.out.size))
                    clear hb hs8
                    go_wp2_with fail
                    go_roundw
                    case rel => exact ⟨q + 1, a5, n5, c5, by omega, by go_num, rfl, HS8, HK8⟩
                    case measure => simp [intOf]; omega
                  · obtain rfl : q = yl := by omega
                    have f3 : decide ((q : Int) < (q : Int)) = false := decide_eq_false (by omega)
                    have f4 : decide (q < q) = false := decide_eq_false (by omega)
                    have hall : c.may.take q = c.may := List.take_of_length_le (by rw [HLL.out.2]; exact Nat.le_refl _)
                    have HY10 : Hid (StN wr (.slice a6 n6 c6) (Mt.mayI s (P0 ++ CC.take (j + 1)))) := Lib.hid (by
                      have h9 := HT4.out
                      rw [hall] at h9
                      rw [HFACTS.out.2.2.1, ← List.append_assoc, Mt.mayI_app]
                      simp only [Mt.mayI, List.flatMap_cons, List.flatMap_nil, List.append_nil] at h9 ⊢
                      rw [HCP.out]; exact h9)
                    have HM10 := Lib.hid (HM9.out.below HK.out)
                    have HR10 := Lib.hid (HR9.out.trans (HK.out.mono HR9.out.size))
                    clear hall HT4
                    go_wp2_with fail
                    all_goals
                      go_roundw
                      case rel => exact ⟨j + 1, a3, n3, c3, a6, n6, c6, by omega, by go_num, rfl, rfl, HM10, HY10, HR10⟩
                      case measure => simp [intOf]; omega
        · obtain rfl : j = lc := by omega
          have f1 : decide ((j : Int) < (j : Int)) = false := decide_eq_false (by omega)
          have f2 : decide (j < j) = false := decide_eq_false (by omega)
          have hall : CC.take j = CC := List.take_of_length_le (by rw [HCC.out]; exact Nat.le_refl _)
          have HM3 : Hid (StN wr (.slice a1 n1 c1) (Mt.mustI s (Mt.idxs s (cs.take (i + 1))))) := Lib.hid (by have := HM.out; rw [hall] at this; rw [HSTEP.out]; exact this)
          have HY3 : Hid (StN wr (.slice a2 n2 c2) (Mt.mayI s (Mt.idxs s (cs.take (i + 1))))) := Lib.hid (by have := HY.out; rw [hall] at this; rw [HSTEP.out]; exact this)
          clear hall HM HY
          go_wp2_with fail
          go_roundw
          case rel => exact ⟨i + 1, a1, n1, c1, a2, n2, c2, by omega, by go_num, rfl, rfl, HM3, HY3, HWr⟩
          case measure => simp [intOf]; omega
    · obtain rfl : i = nc := by omega
      have e1 : decide ((i : Int) < (i : Int)) = false := decide_eq_false (by omega)
      have e2 : decide (i < i) = false := decide_eq_false (by omega)
      have hall : cs.take i = cs := List.take_of_length_le (by rw [HMM.out.2]; exact Nat.le_refl _)
      obtain ⟨M, hM1, hM2, hM3⟩ := HM.out
      obtain ⟨A, hA1, hA2, hA3⟩ := HY.out
      rw [hall] at hM3 hA3
      have HF1 : Hid (M = (Mt.wantsS s cs).1) := Lib.hid (Mt.wants_must hM2 hM3)
      have HF2 : Hid (A.filter (fun x => !decide (x ∈ M)) = (Mt.wantsS s cs).2) := Lib.hid (Mt.wants_may hA2 hA3 hM3)
      have hMl : M.length ≤ 128 := Nat.le_trans (Mt.up_len hM2 (fun x hx => HTI.out x (.inl ((hM3 x).1 hx)))) HTL.out
      have hAl : A.length ≤ 128 := Nat.le_trans (Mt.up_len hA2 (fun x hx => HTI.out x (.inr ((hA3 x).1 hx)))) HTL.out
      clear hM2 hA2 hM3 hA3 hall
      obtain ⟨ya, yc, ey, hyc, HYC⟩ := hA1
      have ey1 : a2 = ya := by injection ey
      have ey2 : n2 = A.length := by injection ey
      have ey3 : c2 = yc := by injection ey
      subst ey1 ey2 ey3
      have HM1 := Lib.hid hM1
      obtain ⟨la, hla⟩ : ∃ l, A.length = l := ⟨_, rfl⟩
      obtain ⟨FL, hFL⟩ : ∃ f : Nat → List (List UInt8), f = fun j => (A.take j).filter (fun x => !decide (x ∈ M)) := ⟨_, rfl⟩
      have HFL : Hid (FL 0 = [] ∧ (∀ j (hj : j < A.length), (A[j] ∈ M → FL (j + 1) = FL j) ∧ (A[j] ∉ M → FL (j + 1) = FL j ++ [A[j]])) ∧ FL la = (Mt.wantsS s cs).2 ∧ ∀ j, (FL j).length ≤ 128) := Lib.hid (by
        subst hFL
        refine ⟨by simp, fun j hj => ?_, ?_, fun j => ?_⟩
        · simp only [List.take_succ_eq_append_getElem hj, List.filter_append]
          exact ⟨fun hm => by simp [hm], fun hm => by simp [hm]⟩
        · rw [← HF2.out, ← hla]; simp only [List.take_length]
        · exact Nat.le_trans (List.length_filter_le _ _) (by rw [List.length_take]; omega))
      have HLA := Lib.hid hla
      obtain ⟨i0, hi, hz0, hz1, hz2⟩ := info_parts Try.infoStr13
      have HI := Lib.hid (And.intro hi (And.intro hz0 (And.intro hz1 hz2)))
      rw [hla] at hyc hAl ⊢
      clear hla hFL ey HF2 hi hz0 hz1 hz2 hM1 HM HY p0 p1
      go_wp2_with fail
      obtain ⟨wo, rfl⟩ : ∃ wo, wo = wr := ⟨_, rfl⟩
      go_loopw [8, 70] (fun ov jv wy => ∃ (j : Nat) (a : Option Addr) (c : Nat), j ≤ la ∧ jv = .int .i64 (j : Int) ∧ ov = .slice a (FL j).length c ∧ Hid (IsOwn 9 1 wo.heap.size wy (.slice a (FL j).length c) (FL j).length (nms (FL j))) ∧ Hid (Below wo.heap.size wo wy)) (fun _ jv _ => la - (intOf jv).toNat)
      case atStart => exact ⟨0, none, 0, Nat.zero_le _, rfl, by rw [HFL.out.1]; rfl, Lib.hid (by rw [HFL.out.1]; exact IsOwn.nil _ _ _ _), Lib.hid (Below.refl _ _)⟩
      case round =>
        obtain ⟨j, a, c, hj, rfl, rfl, HO, HR⟩ := hrel
        have hfl := HFL.out.2.2.2 j
        by_cases hlt2 : j < la
        · have f1 : decide ((j : Int) < (la : Int)) = true := decide_eq_true (by omega)
          have f2 : decide (j < la) = true := decide_eq_true hlt2
          have hjl : j < A.length := by rw [HLA.out]; exact hlt2
          obtain ⟨b, off, e0, hbl, hc0⟩ := HYC.out j hjl
          subst e0
          have x0 := (HR.out.cell (p := ⟨b, off + j, none⟩) hbl).trans hc0
          have i0 : (0 : Int) ≤ (j : Int) := by omega
          have i1 : (j : Int) < (la : Int) := by omega
          obtain ⟨g1, g2⟩ := HFL.out.2.1 j hjl
          generalize A[j] = t at *
          have HHM := Lib.hid (fun (u : World) (hb : Below wo.heap.size wo u) => has13_any (HM1.out.below hb) t (by omega))
          obtain ⟨TB, hTB⟩ : ∃ x, Mt.str t = x := ⟨_, rfl⟩
          rw [hTB] at x0 HHM
          have HTB := Lib.hid hTB
          clear hbl hc0 hjl hTB
          by_cases ht : t ∈ M
          · rw [decide_eq_true ht] at HHM
            have HF := Lib.hid (g1 ht)
            clear ht g1 g2
            go_wp2_with fail
            refine (HHM.out _ HR.out).mono ?_
            rintro e w9 ⟨rfl, hb⟩
            have HO9 := Lib.hid (HO.out.below (hb.mono (Nat.le_refl _)))
            have HR9 := Lib.hid (HR.out.trans (hb.mono HR.out.size))
            clear hb x0
            go_wp2_with fail
            go_roundw
            case rel => exact ⟨j + 1, a, c, by omega, by go_num, by rw [HF.out], by rw [HF.out]; exact HO9, HR9⟩
            case measure => simp [intOf]; omega
          · rw [decide_eq_false ht] at HHM
            have HF := Lib.hid (g2 ht)
            clear ht g1 g2
            go_wp2_with fail
            refine (HHM.out _ HR.out).mono ?_
            rintro e w9 ⟨rfl, hb⟩
            have HO9 := Lib.hid (HO.out.below (hb.mono (Nat.le_refl _)))
            have HR9 := Lib.hid (HR.out.trans (hb.mono HR.out.size))
            clear hb x0
            obtain ⟨k, hk⟩ : ∃ k, (FL j).length = k := ⟨_, rfl⟩
            rw [hk] at HO9 hfl ⊢
            have hl : (FL (j + 1)).length = k + 1 := by rw [HF.out, List.length_append, hk]; rfl
            obtain ⟨a3, c3, w5, hrun, hown, hb5⟩ := own_push (T := 29) (tx := 29) Try.underlying29 Try.underlying29 HI.out.1 HI.out.2.1 HI.out.2.2.1 HI.out.2.2.2 rfl HO9.out HR9.out.size (nms_one _) #[.string TB] rfl (by simp [Value.oneCell']) (by omega) (by omega)
            have e : nms (FL j) ++ (#[.string TB] : Array Value).toList = nms (FL (j + 1)) := by rw [HF.out, ← HTB.out]; simp [nms]
            rw [e] at hown
            have HO5 := Lib.hid hown
            have HR5 := Lib.hid (HR9.out.trans hb5)
            clear hown hb5 e hk
            go_upto_region 26 with (with_reducible refine oper_append13' (.tmp 78) (.tmp 80) 29 29 ?_ _ _ ?_ ?_ _ ?_ hrun ?_; rfl; simp [go_sem]; simp [go_sem]; with_reducible rfl)
            clear hrun
            go_wp2_with fail
            go_roundw
            case rel => exact ⟨j + 1, a3, c3, by omega, by go_num, by rw [hl], by rw [hl]; exact HO5, HR5⟩
            case measure => simp [intOf]; omega
        · obtain rfl : j = la := by omega
          have f1 : decide ((j : Int) < (j : Int)) = false := decide_eq_false (by omega)
          have f2 : decide (j < j) = false := decide_eq_false (by omega)
          have HEND := Lib.hid (HB.out.trans (HR.out.mono HB.out.size))
          have HR1 : Hid (IsNms wr (.slice a1 n1 c1) (Mt.wantsS s cs).1) := Lib.hid (by rw [← HF1.out]; exact HM1.out.below HR.out)
          have HR2 : Hid (IsNms wr (.slice a (FL j).length c) (Mt.wantsS s cs).2) := Lib.hid (by rw [← HFL.out.2.2.1]; exact IsOwn.nms HO.out)
          go_wp2_with fail
          refine bodyPost_ret (v := .tuple #[.slice a1 n1 c1, .slice a (FL j).length c]) (by simp [results, Try.results22, go_sem]) rfl ⟨_, _, rfl, HR1.out, HR2.out, HEND.out⟩
end Go.Proofs.Ytkinemlgifeimaa
