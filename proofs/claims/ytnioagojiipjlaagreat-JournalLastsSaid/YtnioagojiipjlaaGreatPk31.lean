/-
  Some texts of one proof, one behind the other.
-/
import Derived.Deep.CutRange
import Derived.Test.YtnioagojiipjlaaGreatPk30
set_option linter.unusedVariables false
set_option linter.unusedSimpArgs false

/-
  What find comes to: the two heads.
-/
namespace Go.Proofs.YtnioagojiipjlaaGreat
open Go.RowKit
theorem bcell {W W1 : World} (hb : Below W.heap.size W W1) : (∀ b o, b < W.heap.size → W1.cell? ⟨b, o, none⟩ = W.cell? ⟨b, o, none⟩) ∧ (∀ b o, b < W.heap.size → W1.frozen? ⟨b, o, none⟩ = W.frozen? ⟨b, o, none⟩) :=
  ⟨fun b o h => hb.cell (p := ⟨b, o, none⟩) h, fun b o h => hb.frozen (p := ⟨b, o, none⟩) h⟩
/-- A head's cells. -/
def HdAt (w : World) (g : Nat) (h : Nat × Nat) : Prop := w.cell? ⟨g, 0, none⟩ = some (.int .u64 (h.1 : Int)) ∧ w.cell? ⟨g, 1, none⟩ = some (.int .i64 (h.2 : Int))
section
variable {w u : World} {B bl bm : Nat} {d : Mt.Dk}
set_option maxRecDepth 100000 in
set_option maxHeartbeats 2000000 in
theorem find_new (h : IsDisk w B bl bm d) (h4 : 4 ≤ d.lasts.length) {v : Value} (hv : IsTs w v (Mt.secsL d)) : Calls Tryz.prog 38 #[.pointer (some ⟨B, 0, none⟩), v] w fun e w' => ∃ x, e = .returned (.tuple #[.pointer (some ⟨w.heap.size, 0, none⟩), x]) ∧ TsN w.heap.size w' x (Mt.findJ d).2 ∧ IsJ w' w.heap.size B (Mt.findJ d).1 ∧ Below w.heap.size w w' := by
  obtain ⟨a, cap, rfl, hc, h5⟩ := hv
  have hl := Mt.secsL_length d
  have hn8 := h.ok.most
  obtain ⟨n, hn⟩ : ∃ n, d.lasts.length = n := ⟨_, rfl⟩
  rw [hn] at hl h4 hn8
  rcases h5 with h5 | ⟨blk, off, rfl, hblk, hcell⟩
  · rw [h5] at hl; simp at hl; omega
  have HX : Hid (∀ k (hk : k < (Mt.secsL d).length) u, Below w.heap.size w u → u.cell? ⟨blk, off + k, none⟩ = some (.string (Mt.str (Mt.secsL d)[k]))) := Lib.hid (fun k hk u hb => (hb.cell (p := ⟨blk, off + k, none⟩) hblk).trans (hcell k hk))
  have hx0 := hcell 0 (by omega)
  have hx1 := hcell 1 (by omega)
  rw [Nat.add_zero] at hx0
  have hH0 : ∀ u, Calls Tryz.prog 63 #[.string (Mt.str (Mt.secsL d)[0])] u fun e w' => e = .returned (.agg (hdV (Mt.rdHead (d.sec 0)))) ∧ Below u.heap.size u w' := fun u => by
    have h1 := readHead_any (Mt.str (Mt.secsL d)[0]) u
    rw [Mt.str_data, Mt.secsL_get] at h1
    rw [Mt.secsL_get]; exact h1
  have hH1 : ∀ u, Calls Tryz.prog 63 #[.string (Mt.str (Mt.secsL d)[1])] u fun e w' => e = .returned (.agg (hdV (Mt.rdHead (d.sec 1)))) ∧ Below u.heap.size u w' := fun u => by
    have h1 := readHead_any (Mt.str (Mt.secsL d)[1]) u
    rw [Mt.str_data, Mt.secsL_get] at h1
    rw [Mt.secsL_get]; exact h1
  generalize Mt.str (Mt.secsL d)[0] = S0 at hx0 hH0
  generalize Mt.str (Mt.secsL d)[1] = S1 at hx1 hH1
  unfold hdV at hH0 hH1
  obtain ⟨G0, E0, hhd0⟩ : ∃ G E, Mt.rdHead (d.sec 0) = (G, E) := ⟨_, _, rfl⟩
  obtain ⟨G1, E1, hhd1⟩ : ∃ G E, Mt.rdHead (d.sec 1) = (G, E) := ⟨_, _, rfl⟩
  rw [hhd0] at hH0
  rw [hhd1] at hH1
  have HH0 := Lib.hid hH0
  have HH1 := Lib.hid hH1
  have HD0 := Lib.hid hhd0
  have HD1 := Lib.hid hhd1
  have HDK := Lib.hid h
  have HLN := Lib.hid hn
  have hJ : Below w.heap.size w (w.alloc (.cells #[.pointer (some ⟨B, 0, none⟩), .int .u64 0, .int .i64 1, .int .i64 1, .int .i64 0, .int .i64 0, .bool false] 94)) := (Below.refl _ _).alloc (Nat.le_refl _) _
  have HJ0 : Hid (IsJ (w.alloc (.cells #[.pointer (some ⟨B, 0, none⟩), .int .u64 0, .int .i64 1, .int .i64 1, .int .i64 0, .int .i64 0, .bool false] 94)) w.heap.size B ⟨0, 1, 1, 0, 0, false⟩) := Lib.hid (heap_alloc_new w _)
  have HAS := Lib.hid (alloc_size w (.cells #[.pointer (some ⟨B, 0, none⟩), .int .u64 0, .int .i64 1, .int .i64 1, .int .i64 0, .int .i64 0, .bool false] 94))
  have HJB := Lib.hid hJ
  have y0 := (hJ.cell (p := ⟨blk, off, none⟩) hblk).trans hx0
  have y1 := (hJ.cell (p := ⟨blk, off + 1, none⟩) hblk).trans hx1
  have HBK := Lib.hid hblk
  have hcn : (1 : Int) < (n : Int) := by omega
  have hcn0 : (0 : Int) < (n : Int) := by omega
  have hcnN : 0 < n := by omega
  have hcnM : 1 < n := by omega
  clear hx0 hx1 hH0 hH1 hhd0 hhd1 hcell hc hJ hn h
  simp only at *
  rw [hl]
  have HL := Lib.hid hl
  clear hl
  go_enter Tryz.func38, Tryz.ntmps38
  go_upto_region 2 with fail
  generalize w.alloc (.cells #[.pointer (some ⟨B, 0, none⟩), .int .u64 0, .int .i64 1, .int .i64 1, .int .i64 0, .int .i64 0, .bool false] 94) = wA at *
  have HC2 : Hid (∀ u, Below wA.heap.size wA u → u.cell? ⟨blk, off, none⟩ = some (.string S0) ∧ u.cell? ⟨blk, off + 1, none⟩ = some (.string S1)) := Lib.hid (fun u hb => ⟨(hb.cell (p := ⟨blk, off, none⟩) (by have := HBK.out; have := HAS.out; show blk < _; omega)).trans y0, (hb.cell (p := ⟨blk, off + 1, none⟩) (by have := HBK.out; have := HAS.out; show blk < _; omega)).trans y1⟩)
  go_cut [7, 8] from 15 to 22 (fun t7 t8 wx => ∃ g7 g8, t7 = .pointer (some ⟨g7, 0, none⟩) ∧ t8 = .pointer (some ⟨g8, 0, none⟩) ∧ Hid (Below wA.heap.size wA wx ∧ HdAt wx g7 (G0, E0) ∧ HdAt wx g8 (G1, E1) ∧ g7 < wx.heap.size ∧ g8 < wx.heap.size))
  case first =>
    have hbA : blk < wA.heap.size := by have := HBK.out; have := HAS.out; omega
    have na0 : ¬ blk = wA.heap.size := by omega
    have na1 : ¬ blk = wA.heap.size + 1 := by omega
    have ma0 : ¬ wA.heap.size = blk := by omega
    have ma1 : ¬ wA.heap.size + 1 = blk := by omega
    have HK := Lib.hid ((Below.refl wA.heap.size wA).drew)
    go_region_held3 (fun w' => w'.cell? ⟨blk, off, none⟩ = some (.string S0) ∧ w'.cell? ⟨blk, off + 1, none⟩ = some (.string S1))
      (first
        | go_keep
        | exact qq)
      (first
        | (go_at_call 63; (with_reducible refine (HH0.out _).mono ?_); rintro e w2 ⟨rfl, hb⟩; obtain ⟨hcc, hff⟩ := bcell hb; have hz := hb.size; have HK := Lib.hid (Below.trans (by first | exact HK.out | exact HK.out.alloc HK.out.size _ | exact (HK.out.alloc HK.out.size _).alloc (Nat.le_trans HK.out.size (by simp <;> omega)) _) (hb.mono (by first | exact HK.out.size | exact Nat.le_trans HK.out.size (by simp <;> omega)))); (try simp only [heap_drew, alloc_size] at hz); (try simp only [heap_drew, alloc_size] at hcc); (try simp only [heap_drew, alloc_size] at hff); have hz0 : wA.heap.size ≤ w2.heap.size := (by omega); (try have hz1 : wA.heap.size < w2.heap.size := by omega); (try have hz2 : wA.heap.size + 1 < w2.heap.size := by omega); have n20 : ¬ blk = w2.heap.size := (by omega); have n21 : ¬ blk = w2.heap.size + 1 := (by omega); have m20 : ¬ w2.heap.size = blk := (by omega); have m21 : ¬ w2.heap.size + 1 = blk := (by omega); have qq := HC2.out _ HK.out; clear hb hz)
        | (go_at_call 63; (with_reducible refine (HH1.out _).mono ?_); rintro e w3 ⟨rfl, hb⟩; obtain ⟨hcc, hff⟩ := bcell hb; have hz := hb.size; have HK := Lib.hid (Below.trans (by first | exact HK.out | exact HK.out.alloc HK.out.size _ | exact (HK.out.alloc HK.out.size _).alloc (Nat.le_trans HK.out.size (by simp <;> omega)) _) (hb.mono (by first | exact HK.out.size | exact Nat.le_trans HK.out.size (by simp <;> omega)))); (try simp only [heap_drew, alloc_size] at hz); (try simp only [heap_drew, alloc_size] at hcc); (try simp only [heap_drew, alloc_size] at hff); have hz0 : wA.heap.size ≤ w3.heap.size := (by omega); (try have hz1 : wA.heap.size < w3.heap.size := by omega); (try have hz2 : wA.heap.size + 1 < w3.heap.size := by omega); (try have hz3 : w2.heap.size < w3.heap.size := by omega); (try have hz4 : w2.heap.size + 1 < w3.heap.size := by omega); have n30 : ¬ blk = w3.heap.size := (by omega); have n31 : ¬ blk = w3.heap.size + 1 := (by omega); have m30 : ¬ w3.heap.size = blk := (by omega); have m31 : ¬ w3.heap.size + 1 = blk := (by omega); have qq := HC2.out _ HK.out; clear hb hz))
    all_goals
      go_wp2_with fail
      go_meet
      case rel =>
        refine ⟨_, _, rfl, rfl, Lib.hid ⟨?_, ⟨?_, ?_⟩, ⟨?_, ?_⟩, ?_, ?_⟩⟩
        · repeat (first | exact HK.out | (refine Below.drew ?_) | (refine Below.alloc ?_ (by first | assumption | omega | (simp; done) | (simp; omega)) _) | (refine Below.setCell (p := ⟨_, _, none⟩) ?_ (by first | assumption | omega | (simp; done) | (simp; omega)) _))
        all_goals first
          | omega
          | (simp; done)
          | (simp; omega)
          | (repeat (first
              | rw [World.cell?_drew]
              | rw [World.cell?_setCell_other _ _ _ _ (by first | (simp; done) | (simp; omega))]
              | rw [World.cell?_setCell_same' _ _ _ (by simp [go_sem, *])]
              | rw [World.cell?_alloc_at _ _ _ _ (by first | rfl | (simp; done) | (simp; omega))]
              | rw [World.cell?_alloc_past _ _ _ (by first | omega | (simp; done) | (simp; omega))])
             try rfl)
  case rest =>
    obtain ⟨g7, g8, rfl, rfl, HQ⟩ := hcut
    obtain ⟨Gc, Ec, hcc, hcur⟩ : ∃ Gc Ec hc : Nat, (G1 ≤ G0 ∧ 0 < G0 ∧ Gc = G0 ∧ Ec = E0 ∧ hc = 0) ∨ (¬ (G1 ≤ G0 ∧ 0 < G0) ∧ Gc = G1 ∧ Ec = E1 ∧ hc = 1) := by
      by_cases h : G1 ≤ G0 ∧ 0 < G0
      · exact ⟨_, _, _, .inl ⟨h.1, h.2, rfl, rfl, rfl⟩⟩
      · exact ⟨_, _, _, .inr ⟨h, rfl, rfl, rfl⟩⟩
    have HCUR := Lib.hid hcur
    have hq := HQ.out
    obtain ⟨p0, p1⟩ := hq.2.1
    obtain ⟨r0, r1⟩ := hq.2.2.1
    simp only at p0 p1 r0 r1
    have HJC := Lib.hid (show IsJ wc w.heap.size B ⟨0, 1, 1, 0, 0, false⟩ from HJ0.out.below hq.1)
    have HBC := Lib.hid (HJB.out.trans (hq.1.mono HJB.out.size))
    obtain ⟨s0, s1, s2, s3, s4, s5, s6⟩ := HJC.out.cells
    have f3 := HJC.out.frozen 3
    have HL7 := Lib.hid hq.2.2.2.1
    have HL8 := Lib.hid hq.2.2.2.2
    have HP7 := Lib.hid hq.2.1
    have HP8 := Lib.hid hq.2.2.1
    have hlc : w.heap.size < wc.heap.size := lt_of_block HJC.out
    have h7lt : g7 < wc.heap.size := HL7.out
    have h8lt : g8 < wc.heap.size := HL8.out
    clear hq HQ
    -- the test, and what is current
    obtain ⟨bb, hbb⟩ : ∃ bb : Bool, bb = (decide (G1 ≤ G0) && decide (0 < G0)) := ⟨_, rfl⟩
    have HBB := Lib.hid hbb
    clear hbb hcur
    go_upto_region 4 with fail
    have hb3 : Below wc.heap.size wc (wc.alloc (.cells #[.int .u64 (G1 : Int), .int .i64 (E1 : Int)] 102)) := (Below.refl _ _).alloc (Nat.le_refl _) _
    have HJ3 := Lib.hid (HJC.out.below hb3)
    have HB3 := Lib.hid (HBC.out.trans (hb3.mono HBC.out.size))
    have HP7' : Hid (HdAt (wc.alloc (.cells #[.int .u64 (G1 : Int), .int .i64 (E1 : Int)] 102)) g7 (G0, E0)) := Lib.hid ⟨(hb3.cell (p := ⟨g7, 0, none⟩) h7lt).trans HP7.out.1, (hb3.cell (p := ⟨g7, 1, none⟩) h7lt).trans HP7.out.2⟩
    have HP8' : Hid (HdAt (wc.alloc (.cells #[.int .u64 (G1 : Int), .int .i64 (E1 : Int)] 102)) g8 (G1, E1)) := Lib.hid ⟨(hb3.cell (p := ⟨g8, 0, none⟩) h8lt).trans HP8.out.1, (hb3.cell (p := ⟨g8, 1, none⟩) h8lt).trans HP8.out.2⟩
    have hx9 := heap_alloc_new wc (.cells #[.int .u64 (G1 : Int), .int .i64 (E1 : Int)] 102)
    have HX9 := Lib.hid hx9
    have HS3 := Lib.hid (alloc_size wc (.cells #[.int .u64 (G1 : Int), .int .i64 (E1 : Int)] 102))
    clear p0 p1 r0 r1 s0 s1 s2 s3 s4 s5 s6 f3 hb3 HP7 HP8 hx9
    generalize wc.alloc (.cells #[.int .u64 (G1 : Int), .int .i64 (E1 : Int)] 102) = w3 at *
    generalize wc.heap.size = g9 at *
    obtain ⟨p0, p1⟩ := HP7'.out
    obtain ⟨r0, r1⟩ := HP8'.out
    simp only at p0 p1 r0 r1
    have HWE : Hid (w3 = w3) := Lib.hid rfl
    go_cut [33] from 23 to 33 (fun t33 wx => t33 = .bool bb ∧ wx = w3)
    case first =>
      by_cases h1 : G1 ≤ G0
      · have d1 : decide ((G1 : Int) ≤ (G0 : Int)) = true := decide_eq_true (by omega)
        have d1' : decide (G1 ≤ G0) = true := decide_eq_true h1
        by_cases h2 : 0 < G0
        · have d2 : decide ((0 : Int) < (G0 : Int)) = true := decide_eq_true (by omega)
          have d2' : decide (0 < G0) = true := decide_eq_true h2
          have HBT := Lib.hid (show bb = true by have := HBB.out; rw [d1', d2'] at this; exact this)
          clear h1 h2
          go_wp2_with fail
          go_meet
          case rel => exact ⟨by rw [HBT.out], rfl⟩
        · have d2 : decide ((0 : Int) < (G0 : Int)) = false := decide_eq_false (by omega)
          have d2' : decide (0 < G0) = false := decide_eq_false h2
          have HBT := Lib.hid (show bb = false by have := HBB.out; rw [d1', d2'] at this; exact this)
          clear h1 h2
          go_wp2_with fail
          go_meet
          case rel => exact ⟨by rw [HBT.out], rfl⟩
      · have d1 : decide ((G1 : Int) ≤ (G0 : Int)) = false := decide_eq_false (by omega)
        have d1' : decide (G1 ≤ G0) = false := decide_eq_false h1
        have HBT := Lib.hid (show bb = false by have := HBB.out; rw [d1'] at this; exact this)
        clear h1
        go_wp2_with fail
        go_meet
        case rel => exact ⟨by rw [HBT.out], rfl⟩
    case rest =>
      obtain ⟨rfl, hw3⟩ := hcut
      subst hw3
      have h9lt : g9 < wc.heap.size := lt_of_block HX9.out
      obtain ⟨x0, x1⟩ := hbox_of HX9.out
      have fx0 : wc.frozen? ⟨g9, 0, none⟩ = false := frozen_of_row _ _ _ _ _ HX9.out
      have fx1 : wc.frozen? ⟨g9, 1, none⟩ = false := frozen_of_row _ _ _ _ _ HX9.out
      obtain ⟨s0, s1, s2, s3, s4, s5, s6⟩ := HJ3.out.cells
      have f3 := HJ3.out.frozen 3
      have hne : ¬ w.heap.size = g9 := by omega
      have hne' : ¬ g9 = w.heap.size := by omega
      have hJ7 : ¬ g7 = w.heap.size := fun e => by rw [e, s0] at p0; cases p0
      have hJ8 : ¬ g8 = w.heap.size := fun e => by rw [e, s0] at r0; cases r0
      go_upto_if 33 with fail
      go_cut [] from 34 to 37 (fun wx => Hid (Below w.heap.size w wx ∧ IsJ wx w.heap.size B ⟨0, 1, hcc, 0, 0, false⟩ ∧ HdAt wx g7 (G0, E0) ∧ HdAt wx g8 (G1, E1) ∧ HdAt wx g9 (Gc, Ec) ∧ g9 < wx.heap.size))
      case first =>
        cases bb with
        | true =>
          have hcx : Gc = G0 ∧ Ec = E0 ∧ hcc = 0 := by
            have h1 := HBB.out
            rcases HCUR.out with ⟨_, _, h2⟩ | ⟨a, _⟩
            · exact h2
            · exfalso
              apply a
              rw [Bool.eq_iff_iff, Bool.and_eq_true, decide_eq_true_eq, decide_eq_true_eq] at h1
              exact h1.1 rfl
          have HCX := Lib.hid hcx
          have n79 : g7 ≠ g9 := by omega
          have n89 : g8 ≠ g9 := by omega
          have HK7 : Hid (∀ v0 v1 v2 : Value, HdAt (((wc.setCell ⟨g9, 0, none⟩ v0).setCell ⟨g9, 1, none⟩ v1).setCell ⟨w.heap.size, 3, none⟩ v2) g7 (G0, E0)) := Lib.hid fun v0 v1 v2 => by
            unfold HdAt
            rw [World.cell?_setCell_other _ _ _ _ (by first | (simp; done) | (simp; omega)), World.cell?_setCell_other _ _ _ _ (by first | (simp; done) | (simp; omega)), World.cell?_setCell_other _ _ _ _ (by first | (simp; done) | (simp; omega)), World.cell?_setCell_other _ _ _ _ (by first | (simp; done) | (simp; omega)), World.cell?_setCell_other _ _ _ _ (by first | (simp; done) | (simp; omega)), World.cell?_setCell_other _ _ _ _ (by first | (simp; done) | (simp; omega))]
            exact HP7'.out
          have HK8 : Hid (∀ v0 v1 v2 : Value, HdAt (((wc.setCell ⟨g9, 0, none⟩ v0).setCell ⟨g9, 1, none⟩ v1).setCell ⟨w.heap.size, 3, none⟩ v2) g8 (G1, E1)) := Lib.hid fun v0 v1 v2 => by
            unfold HdAt
            rw [World.cell?_setCell_other _ _ _ _ (by first | (simp; done) | (simp; omega)), World.cell?_setCell_other _ _ _ _ (by first | (simp; done) | (simp; omega)), World.cell?_setCell_other _ _ _ _ (by first | (simp; done) | (simp; omega)), World.cell?_setCell_other _ _ _ _ (by first | (simp; done) | (simp; omega)), World.cell?_setCell_other _ _ _ _ (by first | (simp; done) | (simp; omega)), World.cell?_setCell_other _ _ _ _ (by first | (simp; done) | (simp; omega))]
            exact HP8'.out
          have HK9 : Hid (((wc.setCell ⟨g9, 0, none⟩ (.int .u64 (G0 : Int))).setCell ⟨g9, 1, none⟩ (.int .i64 (E0 : Int))).heap[g9]? = some (.cells #[.int .u64 (G0 : Int), .int .i64 (E0 : Int)] 102 (0, 0))) := Lib.hid (by
            rw [heap_setCell_same _ _ _ _ _ _ (heap_setCell_same _ _ _ _ _ _ HX9.out)]; rfl)
          have HKJ : Hid (IsJ (((wc.setCell ⟨g9, 0, none⟩ (.int .u64 (G0 : Int))).setCell ⟨g9, 1, none⟩ (.int .i64 (E0 : Int))).setCell ⟨w.heap.size, 3, none⟩ (.int .i64 0)) w.heap.size B ⟨0, 1, 0, 0, 0, false⟩) := Lib.hid (IsJ.set (j := ⟨0, 1, 1, 0, 0, false⟩) (by
            unfold IsJ
            rw [heap_setCell_other _ _ _ _ hne, heap_setCell_other _ _ _ _ hne]
            exact HJ3.out) 3 (.int .i64 0) ⟨0, 1, 0, 0, 0, false⟩ rfl)
          have hg9 : w.heap.size ≤ g9 := by omega
          have HKB := Lib.hid (((HB3.out.setCell (p := ⟨g9, 0, none⟩) hg9 (.int .u64 (G0 : Int))).setCell (p := ⟨g9, 1, none⟩) hg9 (.int .i64 (E0 : Int))).setCell (p := ⟨w.heap.size, 3, none⟩) (Nat.le_refl _) (.int .i64 0))
          have fy1 : ∀ v : Value, (wc.setCell ⟨g9, 0, none⟩ v).frozen? ⟨g9, 1, none⟩ = false := fun v => frozen_of_row _ _ _ _ _ (heap_setCell_same _ _ _ _ _ _ HX9.out)
          clear hcx
          go_wp2_with fail
          go_meet
          case rel =>
            refine Lib.hid ⟨HKB.out, ?_, HK7.out _ _ _, HK8.out _ _ _, ?_, by simpa using h9lt⟩
            · rw [HCX.out.2.2]; exact HKJ.out
            · rw [HCX.out.1, HCX.out.2.1]
              exact hbox_of ((heap_setCell_other _ _ _ _ hne').trans HK9.out)
        | false =>
          have hcx : Gc = G1 ∧ Ec = E1 ∧ hcc = 1 := by
            have h1 := HBB.out
            rcases HCUR.out with ⟨a, b, _⟩ | ⟨_, h2⟩
            · rw [decide_eq_true a, decide_eq_true b] at h1; cases h1
            · exact h2
          have HCX := Lib.hid hcx
          clear hcx
          go_wp2_with fail
          go_meet
          case rel =>
            refine Lib.hid ⟨HB3.out, ?_, HP7'.out, HP8'.out, ?_, h9lt⟩
            · rw [HCX.out.2.2]; exact HJ3.out
            · rw [HCX.out.1, HCX.out.2.1]; exact hbox_of HX9.out
      case rest =>
        obtain ⟨hq1, hq2, hq3, hq4, hq5, hq6⟩ := hcut.out
        obtain ⟨z, hz⟩ : ∃ z, Mt.hsize n = z := ⟨_, rfl⟩
        have hzl : z ≤ 4095 := by rw [← hz]; unfold Mt.hsize; omega
        have hz2 : 2 + 2 * z ≤ n := by rw [← hz]; unfold Mt.hsize; omega
        have hjd : JD wc w.heap.size B bl bm ⟨0, 1, hcc, 0, 0, false⟩ d := ⟨hq2, HDK.out.below hq1, by rw [HLN.out]; exact h4, Nat.le_refl _, by show hcc ≤ 1; rcases HCUR.out with ⟨_, _, _, _, e⟩ | ⟨_, _, _, e⟩ <;> omega, Nat.zero_le _, Nat.zero_le _, Nat.zero_le _⟩
        have HSZ : Hid (Calls Tryz.prog 60 #[.pointer (some ⟨w.heap.size, 0, none⟩)] wc fun e w' => e = .returned (.int .i64 (z : Int)) ∧ wc = w') := Lib.hid (by
          have h1 := size_any hjd
          rw [HLN.out, hz] at h1
          exact h1)
        have HZE := Lib.hid hz
        have v1 : IntKind.i64.wrap (2 * (z : Int)) = 2 * (z : Int) := IntWalk.i64_in _ (by omega)
        have v2 : IntKind.i64.wrap (2 + 2 * (z : Int)) = 2 + 2 * (z : Int) := IntWalk.i64_in _ (by omega)
        have v3 : (2 : Int) + 2 * (z : Int) = ((2 + 2 * z : Nat) : Int) := by omega
        have HMK := Lib.hid (make_cls (2 + 2 * z) (by omega))
        have HWX := Lib.hid (And.intro hq1 (And.intro hjd (And.intro hq3 (And.intro hq4 (And.intro hq5 hq6)))))
        have hne9 : ¬ w.heap.size = g9 := hne
        have hb1 : Below wc.heap.size wc (wc.alloc (.cells (ccs (List.replicate (2 + 2 * z) Mt.Cl.zero)).toArray 106)) := (Below.refl _ _).alloc (Nat.le_refl _) _
        have HB1 := Lib.hid hb1
        have HX1 : Hid ((wc.alloc (.cells (ccs (List.replicate (2 + 2 * z) Mt.Cl.zero)).toArray 106)).heap[wc.heap.size]? = some (.cells (ccs (Mt.hlRow d (2 + 2 * z) 2)).toArray 106 (0, 0))) := Lib.hid (by rw [Mt.hlRow_two _ _ (by omega)]; exact heap_alloc_new _ _)
        have hwlt := lt_of_block hq2
        clear hq1 hq2 hq3 hq4 hq5 hq6 hz hjd hb1 hcut h9lt hlc h7lt h8lt
        go_wp2_with fail
        refine (HSZ.out).mono ?_
        rintro e w1 ⟨rfl, rfl⟩
        have hmk := HMK.out
        have HV3 := Lib.hid v3
        generalize hNN : 2 + 2 * z = N at *
        have HNN := Lib.hid hNN
        clear hNN
        have hNn : N ≤ n := hz2
        have HBW := Lib.hid HWX.out.1
        go_wp2_with fail
        clear hmk
        go_loopw [11] (fun i wr => ∃ k : Nat, 2 ≤ k ∧ k ≤ N ∧ i = .int .i64 k ∧ Hid (Below wc.heap.size wc wr) ∧ Hid (wr.heap[wc.heap.size]? = some (.cells (ccs (Mt.hlRow d N k)).toArray 106 (0, 0)))) (fun i _ => N - (intOf i).toNat)
        case atStart => exact ⟨2, Nat.le_refl _, by have := HNN.out; omega, rfl, HB1, HX1⟩
        case round =>
          obtain ⟨k, hk2, hkN, rfl, HBR, HXR⟩ := hrel
          by_cases hlt : k < N
          · have hkl : k < (Mt.secsL d).length := by rw [HL.out]; omega
            have hsec := HX.out k hkl wr (HBW.out.trans (HBR.out.mono HBW.out.size))
            have hrc : ∀ u, Calls Tryz.prog 64 #[.string (Mt.str (Mt.secsL d)[k])] u fun e w' => e = .returned (.agg #[.int .u64 ((Mt.rdCell (d.sec k)).gen : Int), .int .u64 ((Mt.rdCell (d.sec k)).number : Int), .int .i64 ((Mt.rdCell (d.sec k)).part : Int), .int .i64 ((Mt.rdCell (d.sec k)).parts : Int), .string (Mt.str (Mt.rdCell (d.sec k)).body)]) ∧ Below u.heap.size u w' := fun u => by
              have h1 := readCell_any (Mt.str (Mt.secsL d)[k]) u
              rw [Mt.str_data] at h1
              rw [Mt.secsL_get] at h1 ⊢
              exact h1
            have HRC := Lib.hid hrc
            have hrl : k < (Mt.hlRow d N k).length := by rw [Mt.hlRow_length d N k hk2 hkN]; exact hlt
            have HRS := Lib.hid (row_set (Mt.hlRow d N k) k hrl (Mt.rdCell (d.sec k)))
            have HRN := Lib.hid (Mt.hlRow_set d N k hk2 hlt)
            generalize Mt.str (Mt.secsL d)[k] = S at *
            generalize Mt.rdCell (d.sec k) = c at *
            have hkn : (k : Int) < (n : Int) := by omega
            have hkn' : k < n := by omega
            clear hrc hkl
            go_wp2_with fail
            refine (HRC.out _).mono ?_
            rintro e w2 ⟨rfl, hb⟩
            have HB2 := Lib.hid (HBR.out.trans (hb.mono HBR.out.size))
            have hx2 := (hb.block _ (lt_of_block HXR.out)).trans HXR.out
            obtain ⟨k0, k1, k2, k3, k4⟩ := cellAt_row hx2 k hrl
            have e0 : w2.frozen? ⟨wc.heap.size, k * 5, none⟩ = false := frozen_of_row _ _ _ _ _ hx2
            have e1 : w2.frozen? ⟨wc.heap.size, k * 5 + 1, none⟩ = false := frozen_of_row _ _ _ _ _ hx2
            have e2 : w2.frozen? ⟨wc.heap.size, k * 5 + 2, none⟩ = false := frozen_of_row _ _ _ _ _ hx2
            have e3 : w2.frozen? ⟨wc.heap.size, k * 5 + 3, none⟩ = false := frozen_of_row _ _ _ _ _ hx2
            have e4 : w2.frozen? ⟨wc.heap.size, k * 5 + 4, none⟩ = false := frozen_of_row _ _ _ _ _ hx2
            have HX2 := Lib.hid hx2
            clear hb hx2
            go_wp2_with fail
            go_roundw
            case rel =>
              refine ⟨k + 1, by omega, by omega, by go_num, Lib.hid ?_, Lib.hid ?_⟩
              · exact ((((HB2.out.setCell (p := ⟨wc.heap.size, k * 5, none⟩) (Nat.le_refl _) _).setCell (p := ⟨wc.heap.size, k * 5 + 1, none⟩) (Nat.le_refl _) _).setCell (p := ⟨wc.heap.size, k * 5 + 2, none⟩) (Nat.le_refl _) _).setCell (p := ⟨wc.heap.size, k * 5 + 3, none⟩) (Nat.le_refl _) _).setCell (p := ⟨wc.heap.size, k * 5 + 4, none⟩) (Nat.le_refl _) _
              · rw [heap_setCell_same _ _ _ _ _ _ (heap_setCell_same _ _ _ _ _ _ (heap_setCell_same _ _ _ _ _ _ (heap_setCell_same _ _ _ _ _ _ (heap_setCell_same _ _ _ _ _ _ HX2.out))))]
                rw [HRS.out, HRN.out]
            case measure => simp [intOf]; omega
          · obtain rfl : k = N := by omega
            obtain ⟨-, hjd, h7, h8, h9, h9lt⟩ := HWX.out
            have hjr := hjd.below HBR.out
            have HBWR := Lib.hid (HBW.out.trans (HBR.out.mono HBW.out.size))
            have k7 : wr.cell? ⟨g7, 0, none⟩ = some (.int .u64 (G0 : Int)) := (HBR.out.cell (p := ⟨g7, 0, none⟩) (Nat.lt_trans HL7.out h9lt)).trans h7.1
            have k8 : wr.cell? ⟨g8, 0, none⟩ = some (.int .u64 (G1 : Int)) := (HBR.out.cell (p := ⟨g8, 0, none⟩) (Nat.lt_trans HL8.out h9lt)).trans h8.1
            have h9r : HdAt wr g9 (Gc, Ec) := ⟨(HBR.out.cell (p := ⟨g9, 0, none⟩) h9lt).trans h9.1, (HBR.out.cell (p := ⟨g9, 1, none⟩) h9lt).trans h9.2⟩
            have H9L := Lib.hid (Nat.lt_of_lt_of_le h9lt HBR.out.size)
            have H9R := Lib.hid h9r
            have HJR := Lib.hid hjr
            have hN2 : 2 ≤ k := hk2
            have hlen := Mt.hlRow_length d k k hk2 (Nat.le_refl _)
            have hcls := isCls_row hlen HXR.out
            have hgr := greatest_any hcls (by rw [hlen]; omega) G0 G1
            have hkz : k - 2 = 2 * z := by have := HNN.out; omega
            rw [Mt.greatest_row, hkz] at hgr
            have hG0l : G0 < 4294967296 ∧ E0 ≤ 1 := by have := Mt.rdHead_gen (d.sec 0); rw [HD0.out] at this; exact this
            have hG1l : G1 < 4294967296 ∧ E1 ≤ 1 := by have := Mt.rdHead_gen (d.sec 1); rw [HD1.out] at this; exact this
            have hM : Mt.greatest (d.cellsFrom 2 (2 * z)) G0 G1 < 4294967296 := Mt.greatest_lt _ _ _ (fun c hc => by
              unfold Mt.Dk.cellsFrom at hc
              rw [List.mem_map] at hc
              obtain ⟨i, _, rfl⟩ := hc
              exact Mt.rdCell_gen _) hG0l.1 hG1l.1
            have hEc : Ec ≤ 1 := by
              rcases HCUR.out with ⟨_, _, _, e, _⟩ | ⟨_, _, e, _⟩
              · rw [e]; exact hG0l.2
              · rw [e]; exact hG1l.2
            have hhc : hcc ≤ 1 := by rcases HCUR.out with ⟨_, _, _, _, e⟩ | ⟨_, _, _, e⟩ <;> omega
            have HFJ : Hid (Mt.findJ d = (⟨Mt.greatest (d.cellsFrom 2 (2 * z)) G0 G1, if Gc = 0 then 1 else Ec, hcc, 0, 0, false⟩, if Gc = 0 then [] else Mt.records (d.cellsFrom (2 + Ec * z) z) Gc)) := Lib.hid (by
              unfold Mt.findJ
              simp only
              rw [HLN.out, HZE.out, HD0.out, HD1.out]
              simp only
              rcases HCUR.out with ⟨a, b, e1, e2, e3⟩ | ⟨a, e1, e2, e3⟩
              · rw [if_pos ⟨a, b⟩, if_neg (by omega), if_neg (by omega), e1, e2, e3]
              · rw [if_neg a]
                by_cases h0 : G1 = 0
                · rw [if_pos h0, if_pos (by omega), if_pos (by omega), e3]
                · rw [if_neg h0, if_neg (by omega), if_neg (by omega), e1, e2, e3])
            generalize Mt.greatest (d.cellsFrom 2 (2 * z)) G0 G1 = M at *
            have HGR := Lib.hid hgr
            obtain ⟨s0, s1, s2, s3, s4, s5, s6⟩ := hjr.jn.cells
            clear hjd h7 h8 h9 h9lt hjr h9r hgr hcls hG0l hG1l
            clear hlen
            by_cases hGc : Gc = 0
            · have hd : ((Gc : Int) == 0) = true := by rw [beq_iff_eq]; omega
              have HG0 := Lib.hid hGc
              clear hGc
              go_wp2_with fail
              refine (HGR.out).mono ?_
              rintro e w2 ⟨rfl, hb⟩
              have HJ2 := Lib.hid (HJR.out.below hb)
              have HB2 := Lib.hid (HBWR.out.trans (hb.mono HBWR.out.size))
              have q1 := HJ2.out.jn.cells.2.1
              have fq := HJ2.out.jn.frozen 1
              have HJ3' := Lib.hid (HJ2.out.jn.set 1 (.int .u64 (M : Int)) ⟨M, 1, hcc, 0, 0, false⟩ rfl)
              have q9 : w2.cell? ⟨g9, 0, none⟩ = some (.int .u64 (Gc : Int)) := (hb.cell (p := ⟨g9, 0, none⟩) H9L.out).trans H9R.out.1
              have HB3' := Lib.hid (HB2.out.setCell (p := ⟨w.heap.size, 1, none⟩) (Nat.le_refl _) (.int .u64 (M : Int)))
              clear hb
              go_wp2_with fail
              go_ret2
              refine ⟨_, rfl, ?_, ?_, HB3'.out⟩
              · rw [HFJ.out]; simp only [if_pos HG0.out]; exact TsN.nil _ _
              · rw [HFJ.out]; simp only [if_pos HG0.out]; exact HJ3'.out
            · have hd : ((Gc : Int) == 0) = false := by rw [beq_eq_false_iff_ne]; omega
              have HG0 := Lib.hid hGc
              clear hGc
              go_wp2_with fail
              refine (HGR.out).mono ?_
              rintro e w2 ⟨rfl, hb⟩
              have HJ2 := Lib.hid (HJR.out.below hb)
              have HB2 := Lib.hid (HBWR.out.trans (hb.mono HBWR.out.size))
              have q1 := HJ2.out.jn.cells.2.1
              have fq := HJ2.out.jn.frozen 1
              have fq2 := HJ2.out.jn.frozen 2
              have q2 := HJ2.out.jn.cells.2.2.1
              have h3 := HJ2.out.jn.set 1 (.int .u64 (M : Int)) ⟨M, 1, hcc, 0, 0, false⟩ rfl
              have h4' := h3.set 2 (.int .i64 (Ec : Int)) ⟨M, Ec, hcc, 0, 0, false⟩ rfl
              have q9 : w2.cell? ⟨g9, 0, none⟩ = some (.int .u64 (Gc : Int)) := (hb.cell (p := ⟨g9, 0, none⟩) H9L.out).trans H9R.out.1
              have q9' : w2.cell? ⟨g9, 1, none⟩ = some (.int .i64 (Ec : Int)) := (hb.cell (p := ⟨g9, 1, none⟩) H9L.out).trans H9R.out.2
              have HB4 := Lib.hid ((HB2.out.setCell (p := ⟨w.heap.size, 1, none⟩) (Nat.le_refl _) (.int .u64 (M : Int))).setCell (p := ⟨w.heap.size, 2, none⟩) (Nat.le_refl _) (.int .i64 (Ec : Int)))
              have HJ4 := Lib.hid (HJ2.out.put (u := (w2.setCell ⟨w.heap.size, 1, none⟩ (.int .u64 (M : Int))).setCell ⟨w.heap.size, 2, none⟩ (.int .i64 (Ec : Int))) h4' (((OnlyS.refl _ _).setCell (by simp) _).setCell (by simp) _) hEc hhc (by show M ≤ 4294967296; omega) (Nat.zero_le _) (Nat.zero_le _))
              have hrow := (hb.block _ (lt_of_block HXR.out)).trans HXR.out
              have hgne : wc.heap.size ≠ w.heap.size := by omega
              have HXW : Hid (((w2.setCell ⟨w.heap.size, 1, none⟩ (.int .u64 (M : Int))).setCell ⟨w.heap.size, 2, none⟩ (.int .i64 (Ec : Int))).heap[wc.heap.size]? = some (.cells (ccs (Mt.hlRow d k k)).toArray 106 (0, 0))) := Lib.hid ((heap_setCell_other _ _ _ _ hgne).trans ((heap_setCell_other _ _ _ _ hgne).trans hrow))
              have hq9w : ((w2.setCell ⟨w.heap.size, 1, none⟩ (.int .u64 (M : Int))).setCell ⟨w.heap.size, 2, none⟩ (.int .i64 (Ec : Int))).cell? ⟨g9, 0, none⟩ = some (.int .u64 (Gc : Int)) := by
                rw [World.cell?_setCell_other _ _ _ _ (by first | (simp; done) | (simp; omega)), World.cell?_setCell_other _ _ _ _ (by first | (simp; done) | (simp; omega))]
                exact q9
              have HQ9W := Lib.hid hq9w
              have h9l4 : g9 < ((w2.setCell ⟨w.heap.size, 1, none⟩ (.int .u64 (M : Int))).setCell ⟨w.heap.size, 2, none⟩ (.int .i64 (Ec : Int))).heap.size := by
                have := hb.size; have := H9L.out; simp; omega
              have H9L4 := Lib.hid h9l4
              clear hb h3 h4' hrow hgne h9l4
              go_upto_region 15 with fail
              generalize (w2.setCell ⟨w.heap.size, 1, none⟩ (.int .u64 (M : Int))).setCell ⟨w.heap.size, 2, none⟩ (.int .i64 (Ec : Int)) = w4 at *
              obtain ⟨F, hF⟩ : ∃ F, 2 + Ec * z = F := ⟨_, rfl⟩
              have hEz : Ec * z + z ≤ 2 * z := by
                have : Ec = 0 ∨ Ec = 1 := by omega
                rcases this with e | e <;> rw [e] <;> omega
              have hFz : F + z ≤ k := by have := HNN.out; omega
              have hz0 : 1 ≤ z := by have := HZE.out; unfold Mt.hsize at this; omega
              have hFk : ¬ k = F := by omega
              have v5 : IntKind.i64.wrap ((F : Int) + (z : Int)) = (F : Int) + (z : Int) := IntWalk.i64_in _ (by omega)
              have v6 : (F : Int) ≤ (F : Int) + (z : Int) := by omega
              have v7 : (F : Int) + (z : Int) ≤ (k : Int) := by omega
              have v8 : ((F : Int) + (z : Int)).toNat = F + z := by omega
              have v9 : F + z - F = z := by omega
              have v10 : (0 : Int) ≤ (F : Int) + (z : Int) := by omega
              have HCB := Lib.hid (fun u (hb : Below w4.heap.size w4 u) => And.intro ((hb.cell (p := ⟨g9, 0, none⟩) H9L4.out).trans HQ9W.out) (HJ4.out.below hb))
              have HFI : Hid (∀ u, Below w4.heap.size w4 u → Calls Tryz.prog 59 #[.pointer (some ⟨w.heap.size, 0, none⟩)] u fun e w' => e = .returned (.int .i64 (F : Int)) ∧ Below u.heap.size u w') := Lib.hid (fun u hb => by
                have h1 := first_any (HJ4.out.below hb)
                have e : Mt.Jn.first ⟨M, Ec, hcc, 0, 0, false⟩ d.lasts.length = F := by unfold Mt.Jn.first; rw [HLN.out, HZE.out]; exact hF
                rw [e] at h1
                exact h1)
              have HSI : Hid (∀ u, Below w4.heap.size w4 u → Calls Tryz.prog 60 #[.pointer (some ⟨w.heap.size, 0, none⟩)] u fun e w' => e = .returned (.int .i64 (z : Int)) ∧ u = w') := Lib.hid (fun u hb => by
                have h1 := size_any (HJ4.out.below hb)
                rw [HLN.out, HZE.out] at h1
                exact h1)
              have HRE : Hid (∀ u, Below w4.heap.size w4 u → Calls Tryz.prog 66 #[.slice (some ⟨wc.heap.size, F * 5, none⟩) z (k - F), .int .u64 (Gc : Int)] u fun e w' => ∃ x, e = .returned x ∧ TsN u.heap.size w' x (Mt.records (d.cellsFrom F z) Gc) ∧ Below u.heap.size u w') := Lib.hid (fun u hb => by
                have hx := (hb.block _ (lt_of_block HXW.out)).trans HXW.out
                have hp := isCls_part (Mt.hlRow_length d k k hk2 (Nat.le_refl _)) hx F z (k - F) hFz (by omega)
                have he : ((Mt.hlRow d k k).drop F).take z = d.cellsFrom F z := by
                  have h1 := Mt.part_row d z Ec hEc
                  rw [HNN.out, hF] at h1
                  exact h1
                rw [he] at hp
                have h2 := records_new hp (by rw [Mt.cellsFrom_length]; omega) (Mt.row_body d F z) Gc
                exact h2)
              have HFF := Lib.hid hF
              have HK := Lib.hid ((Below.refl w4.heap.size w4).drew)
              have q9w := HQ9W.out
              clear hF hEz
              go_region_held3 (fun w' => w'.cell? ⟨g9, 0, none⟩ = some (.int .u64 (Gc : Int)))
                (first
                  | go_keep
                  | exact qq)
                (first
                  | (go_at_call 59; (with_reducible refine (HFI.out _ HK.out).mono ?_); rintro e w5 ⟨rfl, hb⟩; have HK := Lib.hid (HK.out.trans (hb.mono HK.out.size)); have qq := (HCB.out _ HK.out).1; clear hb)
                  | (go_at_call 60; (with_reducible refine (HSI.out _ HK.out).mono ?_); rintro e w5 ⟨rfl, rfl⟩)
                  | (go_at_call 66; (with_reducible refine (HRE.out _ HK.out).mono ?_); rintro e w5 ⟨x, rfl, hts, hb⟩; have HTS := Lib.hid (hts.mono (Nat.le_trans HB4.out.size HK.out.size)); have HK := Lib.hid (HK.out.trans (hb.mono HK.out.size)); have qq := (HCB.out _ HK.out).1; clear hb hts))
              all_goals
                go_wp2_with fail
                go_ret2
                refine ⟨_, rfl, ?_, ?_, HB4.out.trans (HK.out.mono HB4.out.size)⟩
                · rw [HFJ.out]; simp only [if_neg HG0.out, HFF.out]; exact HTS.out
                · rw [HFJ.out]; simp only [if_neg HG0.out]; exact (HJ4.out.below HK.out).jn
theorem find_any (h : IsDisk w B bl bm d) (h4 : 4 ≤ d.lasts.length) {v : Value} (hv : IsTs w v (Mt.secsL d)) : Calls Tryz.prog 38 #[.pointer (some ⟨B, 0, none⟩), v] w fun e w' => ∃ x, e = .returned (.tuple #[.pointer (some ⟨w.heap.size, 0, none⟩), x]) ∧ IsTs w' x (Mt.findJ d).2 ∧ IsJ w' w.heap.size B (Mt.findJ d).1 ∧ Below w.heap.size w w' :=
  (find_new h h4 hv).mono fun _ _ ⟨x, e, h1, h2⟩ => ⟨x, e, h1.1, h2⟩
end
end Go.Proofs.YtnioagojiipjlaaGreat
