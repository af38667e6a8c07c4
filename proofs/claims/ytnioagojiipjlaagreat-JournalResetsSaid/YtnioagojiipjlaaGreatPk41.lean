/-
  Some texts of one proof, one behind the other.
-/
import Derived.Test.YtnioagojiipjlaaGreatPk23
import Derived.Test.YtnioagojiipjlaaGreatPk26
import Derived.Test.YtnioagojiipjlaaGreatPk40

/-
  JournalResets: the walk.
-/
namespace Go.Proofs.YtnioagojiipjlaaGreat
open Go.RowKit Go.Maps
set_option maxHeartbeats 8000000 in
set_option maxRecDepth 100000 in
theorem jresets (v1 v2 : Value) (L1 L2 : List (List UInt8)) (N : Int) (K : Nat) (T A : Int) (w : World) (h1 : IsTs w v1 L1) (h2 : IsTs w v2 L2) (l1 : L1.length ≤ 9223372036854775807 ∧ ∀ b ∈ L1, b.length ≤ 9223372036854775807) (l2 : L2.length ≤ 9223372036854775807 ∧ ∀ b ∈ L2, b.length ≤ 9223372036854775807)
    (hN : N ≤ 9223372036854775807) (hK : K < 18446744073709551616) (hT : -9223372036854775808 ≤ T ∧ T ≤ 9223372036854775807) (hA : -9223372036854775808 ≤ A ∧ A ≤ 9223372036854775807) :
    Calls Tryz.prog 5 #[v1, v2, .agg #[.int .i64 N, .int .u64 (K : Int), .int .i64 T, .int .i64 A]] w fun e w' => e = .returned (.bool true) ∧ Below w.heap.size w w' := by
  have HAW := Lib.hid (fun u => awake6_any u)
  have HX := Lib.hid (And.intro hN (And.intro hK (And.intro hT hA)))
  have HR1 := Lib.hid (heap_alloc_new w (.cells #[.int .i64 N, .int .u64 (K : Int), .int .i64 T, .int .i64 A] 57))
  have HB1 := Lib.hid ((Below.refl w.heap.size w).alloc (Nat.le_refl _) (.cells #[.int .i64 N, .int .u64 (K : Int), .int .i64 T, .int .i64 A] 57))
  have HT1 := Lib.hid (h1.below HB1.out)
  have HT2 := Lib.hid (h2.below HB1.out)
  have HC1 := Lib.hid (fun u (hu : IsTs u v1 L1) => cuts6_any hu 200 8 (by omega) (by omega) l1.1 l1.2)
  have HC2 := Lib.hid (fun u (hu : IsTs u v2 L2) => cuts6_any hu 200 8 (by omega) (by omega) l2.1 l2.2)
  have HF1 : Hid ((Mt.cutsL L1 200 8).length ≤ 8 ∧ ∀ b ∈ Mt.cutsL L1 200 8, b.length ≤ 200) := Lib.hid ⟨by rw [Mt.cutsL_length]; omega, Mt.cutsL_le L1 200 8⟩
  have HF2 : Hid ((Mt.cutsL L2 200 8).length ≤ 8 ∧ ∀ b ∈ Mt.cutsL L2 200 8, b.length ≤ 200) := Lib.hid ⟨by rw [Mt.cutsL_length]; omega, Mt.cutsL_le L2 200 8⟩
  obtain ⟨a1, c1, rfl, -⟩ := h1.open
  obtain ⟨a2, c2, rfl, -⟩ := h2.open
  obtain ⟨xb, hxb⟩ : ∃ xb, w.heap.size = xb := ⟨_, rfl⟩
  have HXB := Lib.hid hxb
  clear h1 h2 l1 l2 hN hK hT hA
  go_enter Tryz.func5, Tryz.ntmps5
  go_upto_region 1 with fail
  rw [hxb] at HR1
  generalize (w.alloc (.cells #[.int .i64 N, .int .u64 (K : Int), .int .i64 T, .int .i64 A] 57)) = w1 at *
  clear hxb
  have HCC1 : Hid (Calls Tryz.prog 17 #[.slice a1 L1.length c1, .int .i64 200, .int .i64 8] w1 fun e w' => ∃ a c, e = .returned (.slice a (Mt.cutsL L1 200 8).length c) ∧ IsOwn 9 1 w1.heap.size w' (.slice a (Mt.cutsL L1 200 8).length c) (Mt.cutsL L1 200 8).length (tcs (Mt.cutsL L1 200 8)) ∧ Below w1.heap.size w1 w') := Lib.hid (HC1.out _ HT1.out)
  go_wp2_with fail
  refine (HCC1.out).mono ?_
  rintro e w2 ⟨b1, d1, rfl, ho1, hb⟩
  have HO1 := Lib.hid ho1.ts
  have HB2 := Lib.hid (HB1.out.trans (hb.mono HB1.out.size))
  have HCC2 : Hid (Calls Tryz.prog 17 #[.slice a2 L2.length c2, .int .i64 200, .int .i64 8] w2 fun e w' => ∃ a c, e = .returned (.slice a (Mt.cutsL L2 200 8).length c) ∧ IsOwn 9 1 w2.heap.size w' (.slice a (Mt.cutsL L2 200 8).length c) (Mt.cutsL L2 200 8).length (tcs (Mt.cutsL L2 200 8)) ∧ Below w2.heap.size w2 w') := Lib.hid (HC2.out _ (HT2.out.below hb))
  have HR2 := Lib.hid ((hb.block xb (lt_of_block HR1.out)).trans HR1.out)
  clear ho1 hb HC1 HC2 HCC1 HT1 HT2 HB1 HR1
  go_wp2_with fail
  refine (HCC2.out).mono ?_
  rintro e w0 ⟨b2, d2, rfl, ho2, hb⟩
  have HO2 := Lib.hid ho2.ts
  have HO1' := Lib.hid (HO1.out.below hb)
  have HB0 := Lib.hid (HB2.out.trans (hb.mono HB2.out.size))
  have HR0 := Lib.hid ((hb.block xb (lt_of_block HR2.out)).trans HR2.out)
  have HLT := Lib.hid (lt_of_block HR0.out)
  have HXC : Hid (∀ u : World, Below w0.heap.size w0 u → u.cell? ⟨xb, 0, none⟩ = some (.int .i64 N) ∧ u.cell? ⟨xb, 1, none⟩ = some (.int .u64 (K : Int)) ∧ u.cell? ⟨xb, 2, none⟩ = some (.int .i64 T) ∧ u.cell? ⟨xb, 3, none⟩ = some (.int .i64 A)) := Lib.hid (fun u hu => by
    have hrow := (hu.block xb HLT.out).trans HR0.out
    exact ⟨by rw [cell_of_row _ _ _ _ _ _ hrow]; rfl, by rw [cell_of_row _ _ _ _ _ _ hrow]; rfl, by rw [cell_of_row _ _ _ _ _ _ hrow]; rfl, by rw [cell_of_row _ _ _ _ _ _ hrow]; rfl⟩)
  clear ho2 hb HCC2 HO1 HB2 HR2 HR0
  generalize Mt.cutsL L1 200 8 = one at *
  generalize Mt.cutsL L2 200 8 = two at *
  have HNEW : Hid (Calls Tryz.prog 6 #[.int .i64 60] w0 fun e w' => e = .returned (.pointer (some ⟨w0.heap.size + 2, 0, none⟩)) ∧ IsDisk w' (w0.heap.size + 2) w0.heap.size (w0.heap.size + 1) (Mt.Dk.new 60) ∧ Below w0.heap.size w0 w') := Lib.hid (new_any 60 w0)
  have HNEW2 : Hid (∀ u : World, Calls Tryz.prog 7 #[.int .i64 60] u fun e w' => ∃ g : Rg, e = .returned (.pointer (some ⟨g.R, 0, none⟩)) ∧ u.heap.size ≤ g.R ∧ u.heap.size ≤ g.bl ∧ u.heap.size ≤ g.bw ∧ (g.bl < g.D ∧ g.bw < g.D ∧ g.P = (fun _ => False) ∧ g.D = w'.heap.size) ∧ IsR w' g 0 (Mt.Dk.new 60) ∧ Below u.heap.size u w') := Lib.hid (fun u => enew_any 60 u)
  have HH : Hid (Mt.Has (Mt.Dk.new 60) 0 (fun T => T = []) ∧ (Mt.Dk.new 60).Clear ∧ (Mt.Dk.new 60).lasts.length = 60 ∧ (Mt.Dk.new 60).cut = 0) := Lib.hid ⟨Mt.new_has (by decide) (by decide), Mt.new_clear 60, List.length_replicate, rfl⟩
  generalize Mt.Dk.new 60 = dn at *
  go_wp2_with fail
  refine (HNEW.out).mono ?_
  rintro e w3 ⟨rfl, hd, hb⟩
  generalize hB : w0.heap.size + 2 = B at *
  generalize hbm : w0.heap.size + 1 = bm at *
  generalize hbl : w0.heap.size = bl at hd
  have HBN : Hid (w0.heap.size ≤ B ∧ w0.heap.size ≤ bl ∧ w0.heap.size ≤ bm) := Lib.hid (by omega)
  have HD3 := Lib.hid hd
  have HB3 := Lib.hid hb
  clear hB hbm hbl hd hb HNEW
  go_wp2_with fail
  refine (HNEW2.out _).mono ?_
  rintro e w4 ⟨g, rfl, g1, g2, g3, g4, hr, hb⟩
  have HS4 := Lib.hid (Syn.new HD3.out HBN.out g1 g2 g3 g4 hr hb)
  have HB4 := Lib.hid (HB3.out.trans (hb.mono HB3.out.size))
  clear g1 g2 g3 g4 hr hb HNEW2 HD3 HB3
  obtain ⟨T0, j0, hT0, eE, eL, eJ, hrest, hfull, hgen, hlen, htears, hcut⟩ := (Mt.open_way HH.out.1 (by rw [HH.out.2.2.1]; decide) (by decide) HH.out.2.1).resolve_right (fun h => h.2.2.2.1 HH.out.2.2.2)
  subst hT0
  have HOP1 := Lib.hid (open1f HS4.out)
  have HW1 := Lib.hid (And.intro hrest (And.intro hfull (And.intro hgen (And.intro (hlen.trans HH.out.2.2.1) (And.intro (show (Mt.opD dn).Clear from fun x hx => HH.out.2.1 x (by rw [← htears]; exact hx)) (hcut HH.out.2.2.2))))))
  have HSM := Lib.hid (show dn.lasts.length ≤ 1000 by rw [HH.out.2.2.1]; decide)
  rw [eE, eL, eJ] at HOP1
  clear hrest hfull hgen hlen htears hcut HS4
  go_wp2_with fail
  refine (HOP1.out).mono ?_
  rintro e w5 ⟨x, J, P, rfl, h7⟩
  have HOP2 := Lib.hid (open2f h7.out.1 (by omega) HSM.out)
  rw [eE, eL, eJ] at HOP2
  have HB5 := Lib.hid (HB4.out.trans h7.out.2.1)
  obtain ⟨hx, -⟩ := h7.out.2.2.1
  obtain ⟨xa, xc, rfl, -⟩ := hx.open
  clear hx h7 HOP1 HB4 eE eL eJ HH HSM
  go_wp2_with fail
  refine (HOP2.out).mono ?_
  rintro e w6 ⟨y, Q, P2, sl, rfl, h8⟩
  obtain ⟨g', hg', hs6⟩ : ∃ g' : Rg, g'.R = g.R ∧ Syn w0.heap.size w6 B bl bm g' (0 + 20010) (Mt.opD dn) (Mt.opD dn) (some (J, j0)) (some (Q, j0, sl)) := ⟨(g.plus P).plus P2, rfl, h8.out.1⟩
  have HS6 := Lib.hid hs6
  have HGR := Lib.hid hg'
  clear hs6 hg'
  have HB6 := Lib.hid (HB5.out.trans h8.out.2.1)
  obtain ⟨ya, yc, rfl, -⟩ := h8.out.2.2.1.open
  clear h8 HOP2 HB5
  generalize Mt.opD dn = d0 at *
  go_wp2_with fail
  refine (HAW.out _).mono ?_
  rintro e w7 ⟨rfl, hb⟩
  have HS7 := Lib.hid (HS6.out.below hb)
  have HB7 := Lib.hid (HB6.out.trans (hb.mono HB6.out.size))
  clear hb HS6 HB6
  have hz60 : Mt.hsize 60 = 29 := rfl
  have hneed : ∀ bs : List (List UInt8), (bs.length ≤ 8 ∧ ∀ b ∈ bs, b.length ≤ 200) → Mt.needs bs ≤ 29 := fun bs h => by
    have := Mt.needs_few 1 bs (fun b hb => by have := h.2 b hb; omega)
    omega
  obtain ⟨hrest, hfull, hgen, hlen, hclr, hcut⟩ := HW1.out
  obtain ⟨e0, hr1, hf1, hg1, hl1, ht1, hc1⟩ := (Mt.reset_way hrest hfull (by rw [hlen]; decide) (by omega) (bs := one) (fun b hb => by have := HF1.out.2 b hb; omega) (by have := HF1.out.1; omega) (by rw [hlen, hz60]; exact hneed one HF1.out)).resolve_right (fun h => h.2.1 hcut)
  have HRS := Lib.hid (reset3 HS7.out HO1'.out HB7.out (by have := HF1.out.1; omega) (fun b hb => by have := HF1.out.2 b hb; omega) (by omega))
  rw [e0] at HRS
  have HW2 := Lib.hid (And.intro (hr1.cutAt (n := N.toNat) (k := K) (a := T) (b := A) (by have := HX.out.1; omega) HX.out.2.1 HX.out.2.2.1 HX.out.2.2.2) (And.intro (hf1.cutAt (n := N.toNat) (k := K) (a := T) (b := A) (by have := HX.out.1; omega) HX.out.2.1 HX.out.2.2.1 HX.out.2.2.2) (And.intro (show ((Mt.resetJ d0 j0 one).1.cutAt N.toNat K T A).lasts.length = 60 from hl1.trans hlen) (And.intro (show ((Mt.resetJ d0 j0 one).1.cutAt N.toNat K T A).Clear from fun x hx => hclr x (by rw [← ht1]; exact hx)) (show (Mt.resetJ d0 j0 one).2.1.gen ≤ 2 by omega)))))
  have HND := Lib.hid (hneed two HF2.out)
  clear hrest hfull hgen hlen hclr hcut e0 hr1 hf1 hg1 hl1 ht1 hc1 hneed HS7 HW1
  generalize (Mt.resetJ d0 j0 one).1 = d1' at *
  generalize (Mt.resetJ d0 j0 one).2.1 = j1 at *
  go_wp2_with fail
  refine (HRS.out).mono ?_
  rintro e w8 ⟨rfl, hc⟩
  have HRS2 := Lib.hid hc.out
  clear hc HRS
  go_wp2_with fail
  refine (HRS2.out).mono ?_
  rintro e w9 ⟨rfl, h9⟩
  obtain ⟨sl9, hs9, hb9⟩ := h9.out
  have HB9 := Lib.hid (HB7.out.trans hb9)
  have HCT := Lib.hid (cut3 hs9 N HX.out.1 K T A HX.out.2.1 HX.out.2.2.1 HX.out.2.2.2)
  rw [HGR.out] at HCT
  obtain ⟨x0, x1, x2, x3⟩ := HXC.out _ HB9.out
  clear h9 hs9 hb9 HRS2 HB7
  go_wp2_with fail
  refine (HCT.out).mono ?_
  rintro e w10 ⟨rfl, h10⟩
  have HB10 := Lib.hid (HB9.out.trans h10.out.1)
  have HCT2 := Lib.hid h10.out.2.2
  clear x0 x1 x2 x3 h10 HCT
  obtain ⟨x0, x1, x2, x3⟩ := HXC.out _ HB10.out
  go_wp2_with fail
  refine (HCT2.out).mono ?_
  rintro e w11 ⟨rfl, h11⟩
  have HS11 := Lib.hid h11.out.1
  have HB11 := Lib.hid (HB9.out.trans h11.out.2.1)
  clear x0 x1 x2 x3 h11 HCT2 HB9 HB10
  obtain ⟨hrest, hfull, hlen, hclr, hgen⟩ := HW2.out
  generalize d1'.cutAt N.toNat K T A = d2' at *
  have hway := Mt.reset_way hrest hfull (by rw [show d2'.lasts.length = 60 from hlen]; decide) (by omega) (bs := two) (fun b hb => by have := HF2.out.2 b hb; omega) (by have := HF2.out.1; omega) (by rw [show d2'.lasts.length = 60 from hlen, hz60]; exact HND.out)
  have HRS := Lib.hid (reset3 HS11.out HO2.out HB11.out (by have := HF2.out.1; omega) (fun b hb => by have := HF2.out.2 b hb; omega) (by omega))
  obtain ⟨E, hE⟩ : ∃ E, (Mt.resetJ d2' j1 two).2.2 = E := ⟨_, rfl⟩
  have HCASE : Hid ((Mt.resetJ d2' j1 two).1.waits = Mt.noWaits (Mt.resetJ d2' j1 two).1.lasts.length ∧ (Mt.resetJ d2' j1 two).1.lasts.length = 60 ∧ Mt.Full (Mt.resetJ d2' j1 two).1 ∧ ((E = 0 ∧ Mt.Has (Mt.resetJ d2' j1 two).1.on 3 (fun S => S = two)) ∨ (E = 10 ∧ Mt.Has (Mt.resetJ d2' j1 two).1.on 3 (fun S => S = one ∨ S = two)))) := Lib.hid (by
    rcases hway with ⟨e1, k1, k2, k3, k4, k5, k6⟩ | ⟨e1, k1, k2, k3, k4, k5⟩
    · have h3 := k1.has k2
      exact ⟨k1.on.quiet, k4.trans hlen, k2, .inl ⟨hE.symm.trans e1, ⟨h3.on, h3.full, fun hc => by
        obtain ⟨u, v⟩ := h3.recs hc
        exact ⟨u.mono (by rw [k3]; omega), v⟩⟩⟩⟩
    · exact ⟨k2, k3.trans hlen, k4, .inr ⟨hE.symm.trans e1, ⟨k5.on, k5.full, fun hc => by
        obtain ⟨u, v⟩ := k5.recs hc
        exact ⟨u.mono (by omega), v⟩⟩⟩⟩)
  rw [hE] at HRS
  clear hrest hfull hlen hclr hgen hway hE HW2 HS11 HND hz60
  generalize (Mt.resetJ d2' j1 two).1 = d3' at *
  generalize (Mt.resetJ d2' j1 two).2.1 = j3 at *
  go_wp2_with fail
  refine (HRS.out).mono ?_
  rintro e w12 ⟨rfl, hc⟩
  have HRS2 := Lib.hid hc.out
  clear hc HRS
  go_wp2_with fail
  refine (HRS2.out).mono ?_
  rintro e w13 ⟨rfl, h13⟩
  obtain ⟨sl13, hs13, hb13⟩ := h13.out
  have HB13 := Lib.hid (HB11.out.trans hb13)
  have HCR := Lib.hid (crash3 hs13 HCASE.out.2.2.1.c (by omega) K T A HX.out.2.1 HX.out.2.2.1 HX.out.2.2.2)
  rw [HGR.out, Mt.crash_quiet HCASE.out.1] at HCR
  obtain ⟨x0, x1, x2, x3⟩ := HXC.out _ HB13.out
  clear h13 hs13 hb13 HRS2 HB11
  go_wp2_with fail
  refine (HCR.out).mono ?_
  rintro e w14 ⟨rfl, h14⟩
  have HB14 := Lib.hid (HB13.out.trans h14.out.1)
  have HCR2 := Lib.hid h14.out.2
  clear x0 x1 x2 x3 h14 HCR
  obtain ⟨x0, x1, x2, x3⟩ := HXC.out _ HB14.out
  go_wp2_with fail
  refine (HCR2.out).mono ?_
  rintro e w15 ⟨rfl, h15⟩
  have HS15 := Lib.hid h15.out.1
  have HB15 := Lib.hid (HB13.out.trans h15.out.2)
  have HMX := Lib.hid (rmixed_any h15.out.1.isR (show d3'.on.Torn128 from HCASE.out.2.2.1.t) (by omega))
  rw [HGR.out] at HMX
  clear x0 x1 x2 x3 h15 HCR2 HB13 HB14 HXC
  go_wp2_with fail
  refine (HMX.out).mono ?_
  rintro e w16 ⟨bm', rfl, hbm', hb⟩
  have HS16 := Lib.hid (HS15.out.below hb)
  have HB16 := Lib.hid (HB15.out.trans (hb.mono HB15.out.size))
  have HBF := Lib.hid (HB0.out.trans (HB16.out.mono HB0.out.size))
  clear hb HS15 HB15 HMX
  cases bm' with
  | true =>
    clear hbm'
    go_wp2_with fail
    go_ret
    exact ⟨rfl, HBF.out⟩
  | false =>
    have hclr := hbm'.1 rfl
    have HOP1 := Lib.hid (open1f HS16.out)
    clear hbm'
    rcases HCASE.out.2.2.2 with ⟨rfl, hh⟩ | ⟨rfl, hh⟩
    · obtain ⟨T0, j0', hT0, eE, eL, eJ, -⟩ := (Mt.open_way hh (by show 4 ≤ d3'.lasts.length; rw [HCASE.out.2.1]; decide) (by decide) hclr).resolve_right (fun h => h.2.2.2.1 rfl)
      subst hT0
      rw [eE, eL, eJ] at HOP1
      clear hclr hh eE eL eJ
      go_wp2_with fail
      refine (HOP1.out).mono ?_
      rintro e w17 ⟨x, J', P', rfl, h17⟩
      have HB17 := Lib.hid (HB16.out.trans h17.out.2.1)
      have HTX := Lib.hid h17.out.2.2.1.1
      obtain ⟨xa', xc', rfl, -⟩ := HTX.out.open
      have HSM := Lib.hid (same6_any HTX.out (HO2.out.below HB17.out) (by have := HF2.out.1; omega) (by have := HF2.out.1; omega))
      rw [show decide (T0 = T0) = true from decide_eq_true rfl] at HSM
      clear h17 HOP1
      go_wp2_with fail
      refine (HSM.out).mono ?_
      rintro e w18 ⟨rfl, hb⟩
      have HBG := Lib.hid (HB0.out.trans ((HB17.out.trans (hb.mono HB17.out.size)).mono HB0.out.size))
      clear hb
      go_wp2_with fail
      go_ret
      exact ⟨rfl, HBG.out⟩
    · obtain ⟨T0, j0', hT0, eE, eL, eJ, -⟩ := (Mt.open_way hh (by show 4 ≤ d3'.lasts.length; rw [HCASE.out.2.1]; decide) (by decide) hclr).resolve_right (fun h => h.2.2.2.1 rfl)
      rw [eE, eL, eJ] at HOP1
      have HTL : Hid (T0.length ≤ 8) := Lib.hid (hT0.elim (fun e => e ▸ HF1.out.1) (fun e => e ▸ HF2.out.1))
      have HTT := Lib.hid hT0
      clear hclr hh eE eL eJ hT0
      go_wp2_with fail
      refine (HOP1.out).mono ?_
      rintro e w17 ⟨x, J', P', rfl, h17⟩
      have HB17 := Lib.hid (HB16.out.trans h17.out.2.1)
      have HTX := Lib.hid h17.out.2.2.1.1
      obtain ⟨xa', xc', rfl, -⟩ := HTX.out.open
      have HSM := Lib.hid (same6_any HTX.out (HO1'.out.below HB17.out) (by have := HTL.out; omega) (by have := HF1.out.1; omega))
      clear h17 HOP1
      by_cases ht1 : T0 = one
      · rw [show decide (T0 = one) = true from decide_eq_true ht1] at HSM
        clear ht1
        go_wp2_with fail
        refine (HSM.out).mono ?_
        rintro e w18 ⟨rfl, hb⟩
        have HBG := Lib.hid (HB0.out.trans ((HB17.out.trans (hb.mono HB17.out.size)).mono HB0.out.size))
        clear hb
        go_wp2_with fail
        go_ret
        exact ⟨rfl, HBG.out⟩
      · have ht2 := HTT.out.resolve_left ht1
        rw [show decide (T0 = one) = false from decide_eq_false ht1] at HSM
        have HSM2 := Lib.hid (fun u (hu : Below w17.heap.size w17 u) => same6_any (HTX.out.below hu) ((HO2.out.below HB17.out).below hu) (by have := HTL.out; omega) (by have := HF2.out.1; omega))
        rw [show decide (T0 = two) = true from decide_eq_true ht2] at HSM2
        clear ht1 ht2
        go_wp2_with fail
        refine (HSM.out).mono ?_
        rintro e w18 ⟨rfl, hb⟩
        have HB18 := Lib.hid (HB17.out.trans (hb.mono HB17.out.size))
        have HSM3 := Lib.hid (HSM2.out _ hb)
        clear hb HSM HSM2
        go_wp2_with fail
        refine (HSM3.out).mono ?_
        rintro e w19 ⟨rfl, hb⟩
        have HBG := Lib.hid (HB0.out.trans ((HB18.out.trans (hb.mono HB18.out.size)).mono HB0.out.size))
        clear hb
        go_wp2_with fail
        go_ret
        exact ⟨rfl, HBG.out⟩
end Go.Proofs.YtnioagojiipjlaaGreat
