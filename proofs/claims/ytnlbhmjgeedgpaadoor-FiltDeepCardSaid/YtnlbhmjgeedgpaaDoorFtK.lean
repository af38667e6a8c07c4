/-
  What reading filters comes to: filter, Parse.
-/
import Derived.Test.YtnlbhmjgeedgpaaDoorFtJ
set_option linter.unusedVariables false
set_option linter.unusedSimpArgs false
namespace Go.Proofs.YtnlbhmjgeedgpaaDoor
open Go.RowKit

set_option maxRecDepth 100000 in
set_option maxHeartbeats 2000000 in
theorem filter10_step (d g : Nat) (hd : d + g = 65) (hf : ∀ g', g = g' + 1 → ReadsF (d + 1) g') : ReadsF d g := by
  intro l n w B hl hn hB
  obtain ⟨R, hR⟩ : ∃ R, Mt.filtP g n l = R := ⟨_, rfl⟩
  rw [hR]
  have HF := Lib.hid hf
  have HDG := Lib.hid hd
  have HBL := Lib.hid (lt_of_block hB)
  obtain ⟨w1, hw1⟩ : ∃ u, w.alloc (.cells #[.int .i64 0, .string ⟨#[]⟩, .string ⟨#[]⟩, .slice none 0 0, .slice none 0 0] 25) = u := ⟨_, rfl⟩
  have hg1 : w1.heap[w.heap.size]? = some (.cells #[.int .i64 0, .string ⟨#[]⟩, .string ⟨#[]⟩, .slice none 0 0, .slice none 0 0] 25) := by rw [← hw1]; exact heap_alloc_new w _
  have hb1 : Below w.heap.size w w1 := by rw [← hw1]; exact (Below.refl _ w).alloc (Nat.le_refl _) _
  have HG1 := Lib.hid hg1
  have HO1 : Hid (OnlyS [B] w w1) := Lib.hid (Below.onlyS hb1 (Nat.le_refl _))
  have HR1 : Hid (IsRd w1 B l n) := Lib.hid ((hb1.block B HBL.out).trans hB)
  have HRR := Lib.hid hR
  have HT1 := Lib.hid (take10_any 40 l n w1 B HR1.out)
  clear hf hB hg1 hb1 hd hR
  go_enter Tryd.func20, Tryd.ntmps20
  go_upto_region 1 with fail
  clear hw1
  go_wp2_with fail
  refine (HT1.out).mono ?_
  rintro e w2 ⟨rfl, ho2, hr2⟩
  have HO2 := Lib.hid (HO1.out.trans ho2)
  have HG2 := Lib.hid ((ho2.block _ (lt_of_block HG1.out) (by simp; have := HBL.out; omega)).trans HG1.out)
  have HR2 := Lib.hid hr2
  clear ho2 hr2 HG1 HO1 HR1
  cases h40 : Mt.nextIs 40 l with
  | false =>
    have HN : Hid (R = .error 4) := Lib.hid (by
      rw [← HRR.out]
      cases g with
      | zero => unfold Mt.filtP; rw [if_neg (by rw [h40]; decide)]
      | succ g => unfold Mt.filtP; rw [if_neg (by rw [h40]; decide)])
    clear h40
    obtain ⟨⟨x0, x1, x2, x3, x4⟩, f0, f1, f2, f3, f4⟩ := box5F HG2.out
    go_wp2_with fail
    refine ret5 rfl w.heap.size _ _ _ _ _ _ rfl rfl rfl Tryd.underlying25 Tryd.szFilter HG2.out ?_
    intro w5 ho _
    exact filtP_bad HN.out (by decide) (HO2.out.thenBelow (ho.toBelow (by simp) HO2.out.size))
  | true =>
    have HR2' : Hid (IsRd w2 B l.tail n) := Lib.hid (by have := HR2.out; unfold Mt.dropIs at this; rw [if_pos h40] at this; exact this)
    have hR2 := HR2'.out
    unfold IsRd at hR2
    obtain ⟨⟨r0, r1⟩, k0, k1⟩ := box2F hR2
    have hwr : (n : Int) + 1 = ((n + 1 : Nat) : Int) := by omega
    have HWR := Lib.hid hwr
    clear hwr hR2
    go_upto_region 4 with fail
    have ho3 : OnlyS [B] w2 (w2.setCell ⟨B, 1, none⟩ (.int .i64 ((n : Int) + 1))) := (OnlyS.refl [B] w2).setCell (by simp) _
    have hX3 := heap_setCell_same w2 B 1 _ 46 (.int .i64 ((n : Int) + 1)) HR2'.out
    generalize w2.setCell ⟨B, 1, none⟩ (.int .i64 ((n : Int) + 1)) = w3 at *
    have HO3 := Lib.hid (HO2.out.trans ho3)
    have HG3 := Lib.hid ((ho3.block _ (lt_of_block HG2.out) (by simp; have := HBL.out; omega)).trans HG2.out)
    have HR3 : Hid (IsRd w3 B l.tail (n + 1)) := Lib.hid (by
      have h9 : w3.heap[B]? = some (.cells #[.string (Mt.str l.tail), .int .i64 ((n : Int) + 1)] 46) := hX3
      rw [HWR.out] at h9; exact h9)
    clear ho3 hX3 r0 r1 k0 k1
    have hR3 := HR3.out
    unfold IsRd at hR3
    rw [← HWR.out] at hR3
    obtain ⟨⟨r0, r1⟩, k0, k1⟩ := box2F hR3
    clear hR3
    have HPL := Lib.hid (fun u => place10_any (d : Int) ((n : Int) + 1) u)
    obtain ⟨z, hz⟩ : ∃ z, Mt.placeN (d : Int) ((n : Int) + 1) = z := ⟨_, rfl⟩
    rw [hz] at HPL
    go_wp2_with fail
    refine (HPL.out _).mono ?_
    rintro e w4 ⟨rfl, rfl⟩
    cases g with
    | zero =>
      have hz6 : z = 6 := by rw [← hz]; unfold Mt.placeN; rw [if_pos (by have := HDG.out; omega)]
      subst hz6
      have HN : Hid (R = .error 6) := Lib.hid (by rw [← HRR.out]; unfold Mt.filtP; rw [if_pos h40])
      clear h40 hz
      obtain ⟨⟨x0, x1, x2, x3, x4⟩, f0, f1, f2, f3, f4⟩ := box5F HG3.out
      go_wp2_with fail
      refine ret5 rfl w.heap.size _ _ _ _ _ _ rfl rfl rfl Tryd.underlying25 Tryd.szFilter HG3.out ?_
      intro w5 ho _
      exact filtP_bad HN.out (by decide) (HO3.out.thenBelow (ho.toBelow (by simp) HO3.out.size))
    | succ g =>
      by_cases h1000 : 1000 ≤ n
      · have hz9 : z = 9 := by rw [← hz]; unfold Mt.placeN; rw [if_neg (by have := HDG.out; omega), if_pos (by omega)]
        subst hz9
        have HN : Hid (R = .error 9) := Lib.hid (by rw [← HRR.out]; unfold Mt.filtP; rw [if_pos h40, if_pos h1000])
        clear h40 hz
        obtain ⟨⟨x0, x1, x2, x3, x4⟩, f0, f1, f2, f3, f4⟩ := box5F HG3.out
        go_wp2_with fail
        refine ret5 rfl w.heap.size _ _ _ _ _ _ rfl rfl rfl Tryd.underlying25 Tryd.szFilter HG3.out ?_
        intro w5 ho _
        exact filtP_bad HN.out (by decide) (HO3.out.thenBelow (ho.toBelow (by simp) HO3.out.size))
      · have hz0 : z = 0 := by rw [← hz]; unfold Mt.placeN; rw [if_neg (by have := HDG.out; omega), if_neg (by omega)]
        subst hz0
        have HI := Lib.hid (inner10_any d g (by have := HDG.out; omega) (HF.out g rfl) l.tail (n + 1) w3 B (by rw [List.length_tail]; omega) (by omega) HR3.out)
        have HE : Hid (Mt.endP (Mt.innerP (Mt.filtP g) (n + 1) l.tail) = R) := Lib.hid (by rw [← HRR.out]; conv => rhs; unfold Mt.filtP; rw [if_pos h40, if_neg h1000])
        clear h40 hz h1000
        cases hI : Mt.innerP (Mt.filtP g) (n + 1) l.tail with
        | error e0 =>
          have HN : Hid (R = .error e0) := Lib.hid (by rw [← HE.out, hI]; rfl)
          rw [hI] at HI
          clear hI
          go_wp2_with fail
          refine (HI.out).mono ?_
          rintro e w5 ⟨ho5, rfl, hke⟩
          have hne : (((e0 : Nat) : Int) != 0) = true := by simp; exact hke
          have HO5 := Lib.hid (HO3.out.trans ho5)
          have HG5 := Lib.hid ((ho5.block _ (lt_of_block HG3.out) (by simp; have := HBL.out; omega)).trans HG3.out)
          have HKE := Lib.hid hke
          simp only [zeroF]
          clear ho5 hke r0 r1 k0 k1
          go_upto_region 8 with fail
          have hb6 := (Below.refl w5.heap.size w5).alloc (Nat.le_refl _) (.cells #[.int .i64 0, .string ⟨#[]⟩, .string ⟨#[]⟩, .slice none 0 0, .slice none 0 0] 25)
          generalize w5.alloc (.cells #[.int .i64 0, .string ⟨#[]⟩, .string ⟨#[]⟩, .slice none 0 0, .slice none 0 0] 25) = w6 at *
          have HB6 := Lib.hid hb6
          have HG6 := Lib.hid ((hb6.block _ (lt_of_block HG5.out)).trans HG5.out)
          clear hb6
          obtain ⟨⟨x0, x1, x2, x3, x4⟩, f0, f1, f2, f3, f4⟩ := box5F HG6.out
          go_wp2_with fail
          refine ret5 rfl w.heap.size _ _ _ _ _ _ rfl rfl rfl Tryd.underlying25 Tryd.szFilter HG6.out ?_
          intro w7 ho _
          exact filtP_bad HN.out HKE.out ((HO5.out.then HB6.out).thenBelow (ho.toBelow (by simp) (Nat.le_trans HO5.out.size HB6.out.size)))
        | ok p =>
          obtain ⟨f, m, x⟩ := p
          have HE2 : Hid (Mt.endP (.ok (f, m, x)) = R) := Lib.hid (by rw [← HE.out, hI])
          rw [hI] at HI
          clear hI HE
          go_wp2_with fail
          refine (HI.out).mono ?_
          rintro e w5 ⟨ho5, pa, pc, a4, c4, rfl, hfl, hB5⟩
          have HO5 := Lib.hid (HO3.out.trans ho5)
          have HFL : Hid (IsFl w5 (fun b => w.heap.size < b) (g + 1) (flV f pa pc a4 c4) f) := Lib.hid (hfl.mono (Nat.le_refl _) (fun b hb _ => by have := lt_of_block HG3.out; omega))
          have HG5 := Lib.hid ((ho5.block _ (lt_of_block HG3.out) (by simp; have := HBL.out; omega)).trans HG3.out)
          simp only [flV]
          have HB5 := Lib.hid hB5
          clear ho5 hfl hB5 r0 r1 k0 k1
          go_upto_region 8 with fail
          have hb6 := (Below.refl w5.heap.size w5).alloc (Nat.le_refl _) (.cells #[.int .i64 f.kind, .string (Mt.str f.attr), .string (Mt.str f.value), .slice pa f.pcs.length pc, .slice a4 f.kids.length c4] 25)
          have h6 := heap_alloc_new w5 (.cells #[.int .i64 f.kind, .string (Mt.str f.attr), .string (Mt.str f.value), .slice pa f.pcs.length pc, .slice a4 f.kids.length c4] 25)
          generalize w5.alloc (.cells #[.int .i64 f.kind, .string (Mt.str f.attr), .string (Mt.str f.value), .slice pa f.pcs.length pc, .slice a4 f.kids.length c4] 25) = w6 at *
          have HB6 := Lib.hid hb6
          have H6 := Lib.hid h6
          have HG6 := Lib.hid ((hb6.block _ (lt_of_block HG5.out)).trans HG5.out)
          have HR6 : Hid (IsRd w6 B x m) := Lib.hid ((hb6.block _ (lt_of_block HB5.out)).trans HB5.out)
          clear hb6 h6
          have HT2 := Lib.hid (take10_any 41 x m w6 B HR6.out)
          go_wp2_with fail
          refine (HT2.out).mono ?_
          rintro e w7 ⟨rfl, ho7, hr7⟩
          have HO7 := Lib.hid ho7
          have HR7 := Lib.hid hr7
          have HG7 := Lib.hid ((ho7.block _ (lt_of_block HG6.out) (by simp; have := HBL.out; omega)).trans HG6.out)
          have H67 := Lib.hid ((ho7.block _ (lt_of_block H6.out) (by simp; have := HBL.out; have := HO5.out.size; omega)).trans H6.out)
          clear ho7 hr7
          have HO67 : Hid (OnlyS [B] w w7) := Lib.hid ((HO5.out.then HB6.out).trans HO7.out)
          obtain ⟨⟨x0, x1, x2, x3, x4⟩, f0, f1, f2, f3, f4⟩ := box5F HG7.out
          obtain ⟨⟨y0, y1, y2, y3, y4⟩, -⟩ := box5F H67.out
          cases h41 : Mt.nextIs 41 x with
          | false =>
            have HN : Hid (R = .error 4) := Lib.hid (by rw [← HE2.out]; unfold Mt.endP; simp only; rw [if_neg (by rw [h41]; decide)])
            clear h41
            go_wp2_with fail
            refine ret5 rfl w.heap.size _ _ _ _ _ _ rfl rfl rfl Tryd.underlying25 Tryd.szFilter HG7.out ?_
            intro w8 ho _
            exact filtP_bad HN.out (by decide) (HO67.out.thenBelow (ho.toBelow (by simp) HO67.out.size))
          | true =>
            have HN : Hid (R = .ok (f, m, x.tail)) := Lib.hid (by rw [← HE2.out]; unfold Mt.endP; simp only; rw [if_pos h41])
            have HR7' : Hid (IsRd w7 B x.tail m) := Lib.hid (by have := HR7.out; unfold Mt.dropIs at this; rw [if_pos h41] at this; exact this)
            clear h41
            go_wp2_with fail
            refine ret5 rfl w.heap.size _ _ _ _ _ _ rfl rfl rfl Tryd.underlying25 Tryd.szFilter HG7.out ?_
            intro w8 ho _
            refine filtP_good (f := f) (pa := pa) (pc := pc) (a := a4) (c := c4) HN.out (HO67.out.thenBelow (ho.toBelow (by simp) HO67.out.size)) ?_ ?_
            · have hB := HBL.out
              exact ((HFL.out.below HB6.out).keep (u := w7) (fun b hb _ => hb) (fun b hb hl => HO7.out.block b hl (by simp; omega)) (Nat.le_refl _)).keep (fun b hb _ => by omega) (fun b hb hl => ho.block b hl (by simp; omega)) (Nat.le_refl _)
            · rw [ho.block B (lt_of_block HR7'.out) (by simp; have := HBL.out; omega)]
              exact HR7'.out
theorem filter10_any : ∀ (g d : Nat), d + g = 65 → ReadsF d g
  | 0, d, h => filter10_step d 0 h (fun g' e => by omega)
  | g + 1, d, h => filter10_step d (g + 1) h (fun g' e => by obtain rfl : g' = g := by omega
                                                             exact filter10_any g' (d + 1) (by omega))
end Go.Proofs.YtnlbhmjgeedgpaaDoor
