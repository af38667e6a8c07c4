/-
  Some texts of one proof, one behind the other.
-/
import Derived.Deep.RegionLaw
import Derived.Test.YtnioagojiipjlaaGreatPk26
import Derived.Test.YtnioagojiipjlaaGreatPk30
import Derived.Test.YtnioagojiipjlaaGreatPk35

/-
  JournalPlays: the walk.
-/
namespace Go.Proofs.YtnioagojiipjlaaGreat
open Go.RowKit Go.Maps

set_option maxHeartbeats 8000000 in
set_option maxRecDepth 100000 in
theorem jplays (s : Int) (img : ByteArray) (a : Option Addr) (n c : Nat) (f : Nat → St6) (w : World) (hst : IsSts w a n f) (hn : n ≤ 9223372036854775807) (hi : img.size ≤ 9223372036854775807) :
    Calls Tryz.prog 3 #[.int .i64 s, .string img, .slice a n c] w fun e w' => e = .returned (.bool true) ∧ Below w.heap.size w w' := by
  obtain ⟨z, hz⟩ : ∃ z, min s 40 = z := ⟨_, rfl⟩
  have HST := Lib.hid hst
  have HAW := Lib.hid (fun u => awake6_any u)
  have HNEW := Lib.hid (new_any z w)
  have HNEW2 := Lib.hid (enew_any z)
  have HL0 := Lib.hid (show (Mt.Dk.new (min z.toNat 8192)).lasts.length ≤ 40 by simp [Mt.Dk.new]; omega)
  have HCA := Lib.hid (Mt.calm_new (min z.toNat 8192))
  generalize Mt.Dk.new (min z.toNat 8192) = dn at *
  have HN := Lib.hid hn
  clear hst
  go_enter Tryz.func3, Tryz.ntmps3
  go_wp2_with fail
  refine (HNEW.out).mono ?_
  rintro e w2 ⟨rfl, hd, hb⟩
  generalize hB : w.heap.size + 2 = B at *
  generalize hbm : w.heap.size + 1 = bm at *
  generalize hbl : w.heap.size = bl at hd
  have HBN : Hid (w.heap.size ≤ B ∧ w.heap.size ≤ bl ∧ w.heap.size ≤ bm) := Lib.hid (by omega)
  have HD2 := Lib.hid hd
  have HB2 := Lib.hid hb
  clear hB hbm hbl hd hb HNEW
  go_wp2_with fail
  refine (HNEW2.out _).mono ?_
  rintro e w3 ⟨g, rfl, g1, g2, g3, g4, h2, hb⟩
  have HS3 := Lib.hid (Syn.new HD2.out HBN.out g1 g2 g3 g4 h2 hb)
  have HC3 : Hid (Mt.Calm2 dn) := Lib.hid ⟨HD2.out.ok, HCA.out⟩
  have HB3 := Lib.hid (HB2.out.trans (hb.mono HB2.out.size))
  clear g1 g2 g3 g4 h2 hb HNEW2 HD2 HB2 HCA
  go_wp2_with fail
  refine (HAW.out _).mono ?_
  rintro e w4 ⟨rfl, hb⟩
  have HS4 := Lib.hid (HS3.out.below hb)
  have HB4 := Lib.hid (HB3.out.trans (hb.mono HB3.out.size))
  clear hb HS3 HB3
  by_cases hbig : 40 < n ∨ 5000 < img.size
  · have HEND : ∀ u : World, Hid (Below w.heap.size w u) → Calls Tryz.prog 8 #[] u fun e w' => e = .returned (.bool true) ∧ Hid (Below w.heap.size w w') := fun u hu => (HAW.out u).mono fun e w' ⟨h1, h2⟩ => ⟨h1, Lib.hid (hu.out.trans (h2.mono hu.out.size))⟩
    have HE4 := Lib.hid (HEND _ HB4)
    by_cases h40 : 40 < n
    · have d1 : decide ((40 : Int) < (n : Int)) = true := decide_eq_true (by omega)
      clear hbig h40 HEND
      go_wp2_with fail
      refine (HE4.out).mono ?_
      rintro e w5 ⟨rfl, HB5⟩
      go_wp2_with fail
      go_ret
      exact ⟨rfl, HB5.out⟩
    · have d1 : decide ((40 : Int) < (n : Int)) = false := decide_eq_false (by omega)
      have d2 : decide ((5000 : Int) < (img.size : Int)) = true := decide_eq_true (by omega)
      clear hbig h40 HEND
      go_wp2_with fail
      refine (HE4.out).mono ?_
      rintro e w5 ⟨rfl, HB5⟩
      go_wp2_with fail
      go_ret
      exact ⟨rfl, HB5.out⟩
  · have d1 : decide ((40 : Int) < (n : Int)) = false := decide_eq_false (by omega)
    have d2 : decide ((5000 : Int) < (img.size : Int)) = false := decide_eq_false (by omega)
    have HN40 := Lib.hid (show n ≤ 40 by omega)
    have hi5 : img.size ≤ 5000 := by omega
    have HLY1 := Lib.hid (lay1 HS4.out img)
    have HLY2 := Lib.hid (fun u d1 (h : Syn w.heap.size u B bl bm g 0 d1 dn none none) => lay2 h img (by omega))
    have HC5 : Hid (Mt.Calm2 (dn.lay img.data.toList) ∧ (dn.lay img.data.toList).lasts.length ≤ 40) := Lib.hid ⟨⟨HC3.out.ok.lay _, Mt.calm_lay _ _⟩, by rw [Mt.lay_len]; exact HL0.out⟩
    clear hbig hi5 hi
    go_wp2_with fail
    refine (HLY1.out).mono ?_
    rintro e w5 ⟨rfl, hs, hb⟩
    have HLY3 := Lib.hid (HLY2.out _ _ hs)
    have HB5 := Lib.hid (HB4.out.trans hb)
    clear hs hb HLY1 HLY2 HS4 HB4
    go_wp2_with fail
    refine (HLY3.out).mono ?_
    rintro e w6 ⟨rfl, hs, hb⟩
    have HS6 := Lib.hid hs
    have HB6 := Lib.hid (HB5.out.trans hb)
    clear hs hb HLY3 HB5
    generalize dn.lay img.data.toList = d0 at *
    have HOP1 := Lib.hid (open1 HS6.out)
    clear HC3 HL0
    go_wp2_with fail
    refine (HOP1.out).mono ?_
    rintro e w7 ⟨x, J, P, rfl, h7⟩
    have HOP2 := Lib.hid (open2 h7.out.1 (by omega) (by have := HC5.out.2; omega))
    have HB7 := Lib.hid (HB6.out.trans h7.out.2.1)
    obtain ⟨hx, -⟩ := h7.out.2.2
    have HX := Lib.hid h7.out.2.2
    obtain ⟨xa, xc, rfl, -⟩ := hx.open
    clear hx h7 HOP1 HS6 HB6
    go_wp2_with fail
    refine (HOP2.out).mono ?_
    rintro e w8 ⟨y, Q, P2, sl, rfl, h8⟩
    have HTW8 := Lib.hid (Pr6.opened (R := g.R) h8.out.1 rfl HC5.out.1 HC5.out.2)
    have HB8 := Lib.hid (HB7.out.trans h8.out.2.1)
    have HY := Lib.hid h8.out.2.2.1
    have HX8 := Lib.hid (h8.out.2.2.2 _ _ HX.out)
    have hy := h8.out.2.2.1
    obtain ⟨ya, yc, rfl, -⟩ := hy.open
    have hlen := Mt.opL_len (d := d0) HC5.out.1.ok
    have HSM := Lib.hid (fun u (hu : Below w8.heap.size w8 u) => same6_any (HX8.out.below hu) (HY.out.below hu) hlen hlen)
    clear hy h8 HOP2 HB7 HX hlen
    rw [show decide (Mt.opL d0 = Mt.opL d0) = true from decide_eq_true rfl] at HSM
    generalize (Mt.opL d0).length = m at *
    generalize Option.map (fun x => ({ block := J, off := 0, spot := none } : Addr)) (Mt.opJ d0) = pj at *
    generalize Option.map (fun x => ({ block := Q, off := 0, spot := none } : Addr)) (Mt.opJ d0) = pq at *
    generalize Mt.opE d0 = oe at *
    generalize Mt.opD d0 = dd at *
    have k2 : (oe != oe) = false := by simp
    have k3 : (oe == oe) = true := by simp
    go_wp2_with fail
    refine (HSM.out _ (Below.refl _ _)).mono ?_
    rintro e w9 ⟨rfl, hb⟩
    have HT9 := Lib.hid (HTW8.out.below hb)
    have HB9 := Lib.hid (HB8.out.trans (hb.mono HB8.out.size))
    clear hb HTW8 HSM
    go_wp2_with fail
    refine (image1 HT9.out).mono ?_
    rintro e w10 ⟨rfl, hb⟩
    have HT10 := Lib.hid (HT9.out.below hb)
    have HB10 := Lib.hid (HB9.out.trans (hb.mono HB9.out.size))
    clear hb HT9 HB9
    go_wp2_with fail
    refine (image2 HT10.out).mono ?_
    rintro e w11 ⟨rfl, hb⟩
    have HT11 := Lib.hid (HT10.out.below hb)
    have HB11 := Lib.hid (HB10.out.trans (hb.mono HB10.out.size))
    clear hb HT10 HB10
    go_wp2_with fail
    refine (alike2 HT11.out).mono ?_
    rintro e w12 ⟨rfl, hb⟩
    have HT12 := Lib.hid (HT11.out.below hb)
    have HB12 := Lib.hid (HB11.out.trans (hb.mono HB11.out.size))
    clear hb HT11 HB11
    go_wp2_with fail
    go_loopw [9, 12, 80] (fun pv qv i wr => ∃ (k t : Nat) (d : Mt.Dk) (pj pq : Option Addr), k ≤ n ∧ i = .int .i64 k ∧ pv = .pointer pj ∧ qv = .pointer pq ∧ Hid (t ≤ 20010 * (k + 1) ∧ Pr6 w.heap.size wr B bl bm g.R t d pj pq ∧ Below w.heap.size w wr)) (fun _ _ i _ => n - (intOf i).toNat)
    case atStart => exact ⟨0, _, dd, _, _, Nat.zero_le _, rfl, rfl, rfl, Lib.hid ⟨by omega, HT12.out, HB12.out⟩⟩
    case round =>
      clear HT12 HB12 HC5 HY HX8
      obtain ⟨k, t, d, pj, pq, hk, rfl, rfl, rfl, HR⟩ := hrel
      by_cases hkn : k < n
      · have d4 : decide ((k : Int) < (n : Int)) = true := decide_eq_true (by omega)
        have d5 : decide (k < n) = true := decide_eq_true hkn
        obtain ⟨b, off, rfl, hst⟩ := HST.out.get HR.out.2.2 hkn
        have hok := hst.ok
        have hld := hst.load
        have HTS := Lib.hid hst.ts
        obtain ⟨⟨W, N, S, v, L, K, T, A⟩, hf⟩ : ∃ x, f k = x := ⟨_, rfl⟩
        rw [hf] at hok hld HTS
        dsimp only at hok hld HTS
        have HOK := Lib.hid hok
        have HHK := Lib.hid hkn
        have HOKC := Lib.hid (And.intro hok.n (And.intro hok.k (And.intro hok.t hok.a)))
        have hk0 : (0 : Int) ≤ (k : Int) := by omega
        clear hst hok hf d5
        obtain ⟨va, vc, hv, -⟩ := HTS.out.open
        subst hv
        go_upto_region 14 with (refine wpList_load_run rfl 44 _ rfl _ _ rfl hld ?_)
        have HR2 : Hid (t ≤ 20010 * (k + 1) ∧ Pr6 w.heap.size (wr.alloc (.cells #[.int .i64 W, .int .i64 N, .string (Mt.str S), .slice va L.length vc, .int .u64 (K : Int), .int .i64 T, .int .i64 A] 44)) B bl bm g.R t d pj pq ∧ Below w.heap.size w (wr.alloc (.cells #[.int .i64 W, .int .i64 N, .string (Mt.str S), .slice va L.length vc, .int .u64 (K : Int), .int .i64 T, .int .i64 A] 44))) := Lib.hid ⟨HR.out.1, HR.out.2.1.below ((Below.refl _ _).alloc (Nat.le_refl _) _), HR.out.2.2.alloc HR.out.2.2.size _⟩
        have HX2 := Lib.hid (heap_alloc_new wr (.cells #[.int .i64 W, .int .i64 N, .string (Mt.str S), .slice va L.length vc, .int .u64 (K : Int), .int .i64 T, .int .i64 A] 44))
        have HTS2 := Lib.hid (HTS.out.below ((Below.refl _ _).alloc (Nat.le_refl _) (.cells #[.int .i64 W, .int .i64 N, .string (Mt.str S), .slice va L.length vc, .int .u64 (K : Int), .int .i64 T, .int .i64 A] 44)))
        have HBX : Hid (B < wr.heap.size ∧ bl < wr.heap.size ∧ bm < wr.heap.size) := Lib.hid HR.out.2.1.lts
        obtain ⟨xb, hxb⟩ : ∃ xb, wr.heap.size = xb := ⟨_, rfl⟩
        rw [hxb] at HBX HX2 ⊢
        generalize (wr.alloc (.cells #[.int .i64 W, .int .i64 N, .string (Mt.str S), .slice va L.length vc, .int .u64 (K : Int), .int .i64 T, .int .i64 A] 44)) = w2 at *
        clear HR hld HTS hxb
        have cx0 : w2.cell? ⟨xb, 0, none⟩ = some (.int .i64 W) := by rw [cell_of_row _ _ _ _ _ _ HX2.out]; rfl
        obtain ⟨r, hr⟩ : ∃ r, W.tmod 7 = r := ⟨_, rfl⟩
        by_cases h1 : r = 1 ∨ r = -1
        · have HTB : Hid (t + 20010 ≤ 20010 * (k + 1 + 1)) := Lib.hid (by have := HR2.out.1; omega)
          have HTT : Hid (t + 20010 < 1000000) := Lib.hid (by have := HR2.out.1; have := HN40.out; have := HHK.out; omega)
          have HCUTS : Hid (Calls Tryz.prog 17 #[.slice va L.length vc, .int .i64 500, .int .i64 9] w2 fun e w' => ∃ a c, e = .returned (.slice a (Mt.cutsL L 500 9).length c) ∧ IsOwn 9 1 w2.heap.size w' (.slice a (Mt.cutsL L 500 9).length c) (Mt.cutsL L 500 9).length (tcs (Mt.cutsL L 500 9)) ∧ Below w2.heap.size w2 w') := Lib.hid (cuts6_any HTS2.out 500 9 (by omega) (by omega) HOK.out.l HOK.out.b)
          have HLEN : Hid ((Mt.cutsL L 500 9).length ≤ 9 ∧ ∀ b ∈ Mt.cutsL L 500 9, b.length ≤ 500) := Lib.hid ⟨by rw [Mt.cutsL_length]; omega, Mt.cutsL_le L 500 9⟩
          have cx3 : w2.cell? ⟨xb, 3, none⟩ = some (.slice va L.length vc) := by rw [cell_of_row _ _ _ _ _ _ HX2.out]; rfl
          rcases h1 with rfl | rfl
          all_goals
            go_upto_region 20 with fail
            go_wp2_with fail
            refine (HCUTS.out).mono ?_
            rintro e w3 ⟨a', c', rfl, hown, hb⟩
            have HOWN := Lib.hid hown
            have HBW := Lib.hid hb
            generalize Mt.cutsL L 500 9 = bs at *
            have hpr := HR2.out.2.1
            clear hown hb
            cases hpr with
            | nil g' e hs hf hl =>
              have HT3 : Hid (Pr6 w.heap.size w3 B bl bm g.R t d none none ∧ Below w.heap.size w w3) := Lib.hid ⟨(Pr6.nil g' e hs hf hl).below HBW.out, HR2.out.2.2.trans (HBW.out.mono HR2.out.2.2.size)⟩
              have HNIL := Lib.hid (fun v u => reset_nil6 v u)
              clear hs hf hl e HCUTS HTS2 HX2 cx0 cx3 HR2 HOK HOWN HBW
              go_wp2_with fail
              refine (HNIL.out _ _).mono ?_
              rintro e w7 ⟨rfl, rfl⟩
              replace HTB : Hid (t ≤ 20010 * (k + 1 + 1)) := Lib.hid (by have := HTB.out; omega)
              go_wp2_with fail
              refine (image1 HT3.out.1).mono ?_
              rintro e w4 ⟨rfl, hb⟩
              have HT4 := Lib.hid (And.intro (HT3.out.1.below hb) (HT3.out.2.trans (hb.mono HT3.out.2.size)))
              clear hb HT3
              go_wp2_with fail
              refine (image2 HT4.out.1).mono ?_
              rintro e w5 ⟨rfl, hb⟩
              have HT5 := Lib.hid (And.intro (HT4.out.1.below hb) (HT4.out.2.trans (hb.mono HT4.out.2.size)))
              clear hb HT4
              go_wp2_with fail
              refine (alike2 HT5.out.1).mono ?_
              rintro e w6 ⟨rfl, hb⟩
              have HT6 := Lib.hid (And.intro (HT5.out.1.below hb) (HT5.out.2.trans (hb.mono HT5.out.2.size)))
              clear hb HT5
              go_wp2_with fail
              go_roundw
              case rel => exact ⟨k + 1, _, _, _, _, by omega, by go_num, rfl, rfl, Lib.hid ⟨HTB.out, HT6.out.1, HT6.out.2⟩⟩
              case measure => simp [intOf]; omega
            | both g' J' j Q' sl' e hs hf hl =>
              have HC1 := Lib.hid (reset1p (Pr6.both g' J' j Q' sl' e hs hf hl) HBW.out HOWN.out HLEN.out.1 HLEN.out.2 HTT.out)
              have HB2 := Lib.hid (HR2.out.2.2.trans (HBW.out.mono HR2.out.2.2.size))
              clear hs hf hl e HCUTS HTS2 HX2 cx0 cx3 HR2 HOK HOWN HBW
              go_wp2_with fail
              refine (HC1.out).mono ?_
              rintro e w4 ⟨E, rfl, hc⟩
              have HC2 := Lib.hid hc.out
              have kE1 : (E != E) = false := by simp
              have kE2 : (E == E) = true := by simp
              clear hc HC1
              go_wp2_with fail
              refine (HC2.out).mono ?_
              rintro e w7 ⟨rfl, h7⟩
              obtain ⟨d', h8⟩ := h7.out
              have HT3 := Lib.hid (And.intro h8.1 (HB2.out.trans h8.2))
              clear h7 h8 HC2
              go_wp2_with fail
              refine (image1 HT3.out.1).mono ?_
              rintro e w4 ⟨rfl, hb⟩
              have HT4 := Lib.hid (And.intro (HT3.out.1.below hb) (HT3.out.2.trans (hb.mono HT3.out.2.size)))
              clear hb HT3
              go_wp2_with fail
              refine (image2 HT4.out.1).mono ?_
              rintro e w5 ⟨rfl, hb⟩
              have HT5 := Lib.hid (And.intro (HT4.out.1.below hb) (HT4.out.2.trans (hb.mono HT4.out.2.size)))
              clear hb HT4
              go_wp2_with fail
              refine (alike2 HT5.out.1).mono ?_
              rintro e w6 ⟨rfl, hb⟩
              have HT6 := Lib.hid (And.intro (HT5.out.1.below hb) (HT5.out.2.trans (hb.mono HT5.out.2.size)))
              clear hb HT5
              go_wp2_with fail
              go_roundw
              case rel => exact ⟨k + 1, _, _, _, _, by omega, by go_num, rfl, rfl, Lib.hid ⟨HTB.out, HT6.out.1, HT6.out.2⟩⟩
              case measure => simp [intOf]; omega
        by_cases h2 : r = 2 ∨ r = -2
        · clear h1
          have HTB : Hid (t + 20010 ≤ 20010 * (k + 1 + 1)) := Lib.hid (by have := HR2.out.1; omega)
          have HTT : Hid (t + 20010 < 1000000) := Lib.hid (by have := HR2.out.1; have := HN40.out; have := HHK.out; omega)
          have HC1 := Lib.hid (open1p HR2.out.2.1)
          have HCM := Lib.hid HR2.out.2.1.calm
          have HLEN := Lib.hid (Mt.opL_len HR2.out.2.1.calm.1.ok)
          rcases h2 with rfl | rfl
          all_goals
            go_upto_region 25 with fail
            clear cx0 HX2 HTS2
            go_wp2_with fail
            refine (HC1.out).mono ?_
            rintro e w3 ⟨x', J', P', g', rfl, h7⟩
            have HOP2 := Lib.hid (open2 h7.out.2.1 HTT.out (by have := HCM.out.2.1; omega))
            have HB3 := Lib.hid (HR2.out.2.2.trans h7.out.2.2.1)
            have HX := Lib.hid h7.out.2.2.2
            have HGR := Lib.hid h7.out.1
            obtain ⟨hx, -⟩ := h7.out.2.2.2
            obtain ⟨xa', xc', rfl, -⟩ := hx.open
            rw [show (g'.plus P').R = g.R from HGR.out] at HOP2
            clear hx h7 HC1 HR2
            go_wp2_with fail
            refine (HOP2.out).mono ?_
            rintro e w8 ⟨y', Q', P2', sl', rfl, h8⟩
            have HTW8 := Lib.hid (Pr6.opened (R := g.R) h8.out.1 HGR.out HCM.out.1 HCM.out.2.1)
            have HB8 := Lib.hid (HB3.out.trans h8.out.2.1)
            have HY := Lib.hid h8.out.2.2.1
            have HX8 := Lib.hid (h8.out.2.2.2 _ _ HX.out)
            have hy := h8.out.2.2.1
            obtain ⟨ya', yc', rfl, -⟩ := hy.open
            have HSM := Lib.hid (same6_any HX8.out HY.out HLEN.out HLEN.out)
            rw [show decide (Mt.opL d = Mt.opL d) = true from decide_eq_true rfl] at HSM
            clear hy h8 HOP2 HB3 HX HY HX8 HCM HLEN
            generalize (Mt.opL d).length = m' at *
            generalize Option.map (fun x => ({ block := J', off := 0, spot := none } : Addr)) (Mt.opJ d) = pj' at *
            generalize Option.map (fun x => ({ block := Q', off := 0, spot := none } : Addr)) (Mt.opJ d) = pq' at *
            generalize Mt.opE d = oe' at *
            generalize Mt.opD d = dd' at *
            have kE1 : (oe' != oe') = false := by simp
            have kE2 : (oe' == oe') = true := by simp
            go_wp2_with fail
            refine (HSM.out).mono ?_
            rintro e w9 ⟨rfl, hb⟩
            have HT3 := Lib.hid (And.intro (HTW8.out.below hb) (HB8.out.trans (hb.mono HB8.out.size)))
            clear hb HSM HTW8 HB8
            go_wp2_with fail
            refine (image1 HT3.out.1).mono ?_
            rintro e w4 ⟨rfl, hb⟩
            have HT4 := Lib.hid (And.intro (HT3.out.1.below hb) (HT3.out.2.trans (hb.mono HT3.out.2.size)))
            clear hb HT3
            go_wp2_with fail
            refine (image2 HT4.out.1).mono ?_
            rintro e w5 ⟨rfl, hb⟩
            have HT5 := Lib.hid (And.intro (HT4.out.1.below hb) (HT4.out.2.trans (hb.mono HT4.out.2.size)))
            clear hb HT4
            go_wp2_with fail
            refine (alike2 HT5.out.1).mono ?_
            rintro e w6 ⟨rfl, hb⟩
            have HT6 := Lib.hid (And.intro (HT5.out.1.below hb) (HT5.out.2.trans (hb.mono HT5.out.2.size)))
            clear hb HT5
            go_wp2_with fail
            go_roundw
            case rel => exact ⟨k + 1, _, _, _, _, by omega, by go_num, rfl, rfl, Lib.hid ⟨HTB.out, HT6.out.1, HT6.out.2⟩⟩
            case measure => simp [intOf]; omega
        by_cases h3 : r = 3 ∨ r = -3
        · clear h1 h2
          rcases h3 with rfl | rfl
          all_goals
            go_upto_region 31 with fail
            have cx1 : w2.cell? ⟨xb, 1, none⟩ = some (.int .i64 N) := by rw [cell_of_row _ _ _ _ _ _ HX2.out]; rfl
            have cx4 : w2.cell? ⟨xb, 4, none⟩ = some (.int .u64 (K : Int)) := by rw [cell_of_row _ _ _ _ _ _ HX2.out]; rfl
            have cx5 : w2.cell? ⟨xb, 5, none⟩ = some (.int .i64 T) := by rw [cell_of_row _ _ _ _ _ _ HX2.out]; rfl
            have cx6 : w2.cell? ⟨xb, 6, none⟩ = some (.int .i64 A) := by rw [cell_of_row _ _ _ _ _ _ HX2.out]; rfl
            have HXK : Hid (∀ u : World, OnlyS [B, bl, bm] w2 u → u.heap[xb]? = some (.cells #[.int .i64 W, .int .i64 N, .string (Mt.str S), .slice va L.length vc, .int .u64 (K : Int), .int .i64 T, .int .i64 A] 44 (0, 0))) := Lib.hid (fun u ho => (ho.block xb (lt_of_block HX2.out) (by have := HBX.out; simp; omega)).trans HX2.out)
            by_cases h2 : N.tmod 2 = 0
            · have HC1 := Lib.hid (crash1p HR2.out.2.1 (by have := HR2.out.1; have := HN40.out; have := HHK.out; omega) K T A HOKC.out.2.1 HOKC.out.2.2.1 HOKC.out.2.2.2)
              have HTB : Hid (t + 1 ≤ 20010 * (k + 1 + 1)) := Lib.hid (by have := HR2.out.1; omega)
              go_upto_region 32 with fail
              go_wp2_with fail
              refine (HC1.out).mono ?_
              rintro e w3 ⟨rfl, ho, hc⟩
              have hx3 := HXK.out _ ho
              have HC2 := Lib.hid hc.out
              have HB2 := Lib.hid HR2.out.2.2
              have cy4 : w3.cell? ⟨xb, 4, none⟩ = some (.int .u64 (K : Int)) := by rw [cell_of_row _ _ _ _ _ _ hx3]; rfl
              have cy5 : w3.cell? ⟨xb, 5, none⟩ = some (.int .i64 T) := by rw [cell_of_row _ _ _ _ _ _ hx3]; rfl
              have cy6 : w3.cell? ⟨xb, 6, none⟩ = some (.int .i64 A) := by rw [cell_of_row _ _ _ _ _ _ hx3]; rfl
              clear ho hc hx3 HC1 HXK HR2 HTS2 HX2 cx0 cx1 cx4 cx5 cx6
              go_wp2_with fail
              refine (HC2.out).mono ?_
              rintro e w7 ⟨rfl, h7⟩
              have HT3 := Lib.hid (And.intro h7.out.1 (HB2.out.trans h7.out.2))
              clear h7 HC2 cy4 cy5 cy6
              go_wp2_with fail
              refine (image1 HT3.out.1).mono ?_
              rintro e w4 ⟨rfl, hb⟩
              have HT4 := Lib.hid (And.intro (HT3.out.1.below hb) (HT3.out.2.trans (hb.mono HT3.out.2.size)))
              clear hb HT3
              go_wp2_with fail
              refine (image2 HT4.out.1).mono ?_
              rintro e w5 ⟨rfl, hb⟩
              have HT5 := Lib.hid (And.intro (HT4.out.1.below hb) (HT4.out.2.trans (hb.mono HT4.out.2.size)))
              clear hb HT4
              go_wp2_with fail
              refine (alike2 HT5.out.1).mono ?_
              rintro e w6 ⟨rfl, hb⟩
              have HT6 := Lib.hid (And.intro (HT5.out.1.below hb) (HT5.out.2.trans (hb.mono HT5.out.2.size)))
              clear hb HT5
              go_wp2_with fail
              go_roundw
              case rel => exact ⟨k + 1, _, _, _, _, by omega, by go_num, rfl, rfl, Lib.hid ⟨HTB.out, HT6.out.1, HT6.out.2⟩⟩
              case measure => simp [intOf]; omega
            · have HC1 := Lib.hid (cut1p HR2.out.2.1 N HOKC.out.1.2 K T A HOKC.out.2.1 HOKC.out.2.2.1 HOKC.out.2.2.2)
              have HTB : Hid (t ≤ 20010 * (k + 1 + 1)) := Lib.hid (by have := HR2.out.1; omega)
              have h2' : (N.tmod 2 == 0) = false := by simpa using h2
              clear h2
              go_upto_region 34 with fail
              go_wp2_with fail
              refine (HC1.out).mono ?_
              rintro e w3 ⟨rfl, ho, hc⟩
              have hx3 := HXK.out _ ho
              have HC2 := Lib.hid hc.out
              have HB2 := Lib.hid HR2.out.2.2
              have cy1 : w3.cell? ⟨xb, 1, none⟩ = some (.int .i64 N) := by rw [cell_of_row _ _ _ _ _ _ hx3]; rfl
              have cy4 : w3.cell? ⟨xb, 4, none⟩ = some (.int .u64 (K : Int)) := by rw [cell_of_row _ _ _ _ _ _ hx3]; rfl
              have cy5 : w3.cell? ⟨xb, 5, none⟩ = some (.int .i64 T) := by rw [cell_of_row _ _ _ _ _ _ hx3]; rfl
              have cy6 : w3.cell? ⟨xb, 6, none⟩ = some (.int .i64 A) := by rw [cell_of_row _ _ _ _ _ _ hx3]; rfl
              clear ho hc hx3 HC1 HXK HR2 HTS2 HX2 cx0 cx1 cx4 cx5 cx6
              go_wp2_with fail
              refine (HC2.out).mono ?_
              rintro e w7 ⟨rfl, h7⟩
              have HT3 := Lib.hid (And.intro h7.out.1 (HB2.out.trans h7.out.2))
              clear h7 HC2 cy1 cy4 cy5 cy6
              go_wp2_with fail
              refine (image1 HT3.out.1).mono ?_
              rintro e w4 ⟨rfl, hb⟩
              have HT4 := Lib.hid (And.intro (HT3.out.1.below hb) (HT3.out.2.trans (hb.mono HT3.out.2.size)))
              clear hb HT3
              go_wp2_with fail
              refine (image2 HT4.out.1).mono ?_
              rintro e w5 ⟨rfl, hb⟩
              have HT5 := Lib.hid (And.intro (HT4.out.1.below hb) (HT4.out.2.trans (hb.mono HT4.out.2.size)))
              clear hb HT4
              go_wp2_with fail
              refine (alike2 HT5.out.1).mono ?_
              rintro e w6 ⟨rfl, hb⟩
              have HT6 := Lib.hid (And.intro (HT5.out.1.below hb) (HT5.out.2.trans (hb.mono HT5.out.2.size)))
              clear hb HT5
              go_wp2_with fail
              go_roundw
              case rel => exact ⟨k + 1, _, _, _, _, by omega, by go_num, rfl, rfl, Lib.hid ⟨HTB.out, HT6.out.1, HT6.out.2⟩⟩
              case measure => simp [intOf]; omega
        by_cases h4 : r = 4 ∨ r = -4
        · clear h1 h2 h3
          have HTB : Hid (t ≤ 20010 * (k + 1 + 1)) := Lib.hid (by have := HR2.out.1; omega)
          have HC1 := Lib.hid (limit1p HR2.out.2.1 N HOKC.out.1.2)
          rcases h4 with rfl | rfl
          all_goals
            go_upto_region 38 with fail
            have cx1 : w2.cell? ⟨xb, 1, none⟩ = some (.int .i64 N) := by rw [cell_of_row _ _ _ _ _ _ HX2.out]; rfl
            have HXK : Hid (∀ u : World, OnlyS [B, bl, bm] w2 u → u.cell? ⟨xb, 1, none⟩ = some (.int .i64 N)) := Lib.hid (fun u ho => by
              rw [cell_of_row _ _ _ _ _ _ ((ho.block xb (lt_of_block HX2.out) (by have := HBX.out; simp; omega)).trans HX2.out)]; rfl)
            go_wp2_with fail
            refine (HC1.out).mono ?_
            rintro e w3 ⟨rfl, ho, hc⟩
            have cy1 := HXK.out _ ho
            have HC2 := Lib.hid hc.out
            have HB2 := Lib.hid HR2.out.2.2
            clear ho hc HC1 HXK HR2 HTS2 HX2 cx0 cx1
            go_wp2_with fail
            refine (HC2.out).mono ?_
            rintro e w7 ⟨rfl, h7⟩
            have HT3 := Lib.hid (And.intro h7.out.1 (HB2.out.trans h7.out.2))
            clear h7 HC2 cy1
            go_wp2_with fail
            refine (image1 HT3.out.1).mono ?_
            rintro e w4 ⟨rfl, hb⟩
            have HT4 := Lib.hid (And.intro (HT3.out.1.below hb) (HT3.out.2.trans (hb.mono HT3.out.2.size)))
            clear hb HT3
            go_wp2_with fail
            refine (image2 HT4.out.1).mono ?_
            rintro e w5 ⟨rfl, hb⟩
            have HT5 := Lib.hid (And.intro (HT4.out.1.below hb) (HT4.out.2.trans (hb.mono HT4.out.2.size)))
            clear hb HT4
            go_wp2_with fail
            refine (alike2 HT5.out.1).mono ?_
            rintro e w6 ⟨rfl, hb⟩
            have HT6 := Lib.hid (And.intro (HT5.out.1.below hb) (HT5.out.2.trans (hb.mono HT5.out.2.size)))
            clear hb HT5
            go_wp2_with fail
            go_roundw
            case rel => exact ⟨k + 1, _, _, _, _, by omega, by go_num, rfl, rfl, Lib.hid ⟨HTB.out, HT6.out.1, HT6.out.2⟩⟩
            case measure => simp [intOf]; omega
        · have r1 : (r == 1) = false := by simp; omega
          have r2 : (r == -1) = false := by simp; omega
          have r3 : (r == 2) = false := by simp; omega
          have r4 : (r == -2) = false := by simp; omega
          have r5 : (r == 3) = false := by simp; omega
          have r6 : (r == -3) = false := by simp; omega
          have r7 : (r == 4) = false := by simp; omega
          have r8 : (r == -4) = false := by simp; omega
          clear h1 h2 h3 h4
          have HTB : Hid (t + 20010 ≤ 20010 * (k + 1 + 1)) := Lib.hid (by have := HR2.out.1; omega)
          have HCUT : Hid (∀ u : World, Calls Tryz.prog 26 #[.string (Mt.str S), .int .i64 1000] u fun e w' => e = .returned (.string (Mt.str (S.take 1000))) ∧ u = w') := Lib.hid (fun u => cut6_any S 1000 u HOK.out.s (by omega))
          have cx2 : w2.cell? ⟨xb, 2, none⟩ = some (.string (Mt.str S)) := by rw [cell_of_row _ _ _ _ _ _ HX2.out]; rfl
          go_upto_region 15 with fail
          go_wp2_with fail
          refine (HCUT.out _).mono ?_
          rintro e w3 ⟨rfl, rfl⟩
          have HS3 := Lib.hid (show (S.take 1000).length ≤ 262144 by rw [List.length_take]; omega)
          generalize S.take 1000 = S3 at *
          have HTT : Hid (t + 20010 < 1000000) := Lib.hid (by have := HR2.out.1; have := HN40.out; have := HHK.out; omega)
          have hpr := HR2.out.2.1
          cases hpr with
          | nil g' e hs hf hl =>
            have HT := Lib.hid (And.intro HR2.out.1 (And.intro (Pr6.nil g' e hs hf hl) HR2.out.2.2))
            have HNIL := Lib.hid (fun u => append_nil6 (Mt.str S3) u)
            clear hs hf hl e HCUT HTS2 HX2 cx0 cx2 HR2 r1 r2 r3 r4 r5 r6 r7 r8 HOK
            go_wp2_with fail
            refine (HNIL.out _).mono ?_
            rintro e w7 ⟨rfl, hb⟩
            have HT3 := Lib.hid (And.intro (HT.out.2.1.below hb) (HT.out.2.2.trans (hb.mono HT.out.2.2.size)))
            replace HTB : Hid (t ≤ 20010 * (k + 1 + 1)) := Lib.hid (by have := HTB.out; omega)
            clear hb HT
            go_wp2_with fail
            refine (image1 HT3.out.1).mono ?_
            rintro e w4 ⟨rfl, hb⟩
            have HT4 := Lib.hid (And.intro (HT3.out.1.below hb) (HT3.out.2.trans (hb.mono HT3.out.2.size)))
            clear hb HT3
            go_wp2_with fail
            refine (image2 HT4.out.1).mono ?_
            rintro e w5 ⟨rfl, hb⟩
            have HT5 := Lib.hid (And.intro (HT4.out.1.below hb) (HT4.out.2.trans (hb.mono HT4.out.2.size)))
            clear hb HT4
            go_wp2_with fail
            refine (alike2 HT5.out.1).mono ?_
            rintro e w6 ⟨rfl, hb⟩
            have HT6 := Lib.hid (And.intro (HT5.out.1.below hb) (HT5.out.2.trans (hb.mono HT5.out.2.size)))
            clear hb HT5
            go_wp2_with fail
            go_roundw
            case rel => exact ⟨k + 1, _, _, _, _, by omega, by go_num, rfl, rfl, Lib.hid ⟨HTB.out, HT6.out.1, HT6.out.2⟩⟩
            case measure => simp [intOf]; omega
          | both g' J' j Q' sl' e hs hf hl =>
            have HC1 := Lib.hid (append1p (Pr6.both g' J' j Q' sl' e hs hf hl) S3 HS3.out HTT.out)
            have HB2 := Lib.hid HR2.out.2.2
            clear hs hf hl e HCUT HTS2 HX2 cx0 cx2 HR2 r1 r2 r3 r4 r5 r6 r7 r8 HOK
            go_wp2_with fail
            refine (HC1.out).mono ?_
            rintro e w3 ⟨E, rfl, hc⟩
            have HC2 := Lib.hid hc.out
            have kE1 : (E != E) = false := by simp
            have kE2 : (E == E) = true := by simp
            clear hc HC1
            go_wp2_with fail
            refine (HC2.out).mono ?_
            rintro e w7 ⟨rfl, h7⟩
            obtain ⟨d', h8⟩ := h7.out
            have HT3 := Lib.hid (And.intro h8.1 (HB2.out.trans h8.2))
            clear h7 h8 HC2
            go_wp2_with fail
            refine (image1 HT3.out.1).mono ?_
            rintro e w4 ⟨rfl, hb⟩
            have HT4 := Lib.hid (And.intro (HT3.out.1.below hb) (HT3.out.2.trans (hb.mono HT3.out.2.size)))
            clear hb HT3
            go_wp2_with fail
            refine (image2 HT4.out.1).mono ?_
            rintro e w5 ⟨rfl, hb⟩
            have HT5 := Lib.hid (And.intro (HT4.out.1.below hb) (HT4.out.2.trans (hb.mono HT4.out.2.size)))
            clear hb HT4
            go_wp2_with fail
            refine (alike2 HT5.out.1).mono ?_
            rintro e w6 ⟨rfl, hb⟩
            have HT6 := Lib.hid (And.intro (HT5.out.1.below hb) (HT5.out.2.trans (hb.mono HT5.out.2.size)))
            clear hb HT5
            go_wp2_with fail
            go_roundw
            case rel => exact ⟨k + 1, _, _, _, _, by omega, by go_num, rfl, rfl, Lib.hid ⟨HTB.out, HT6.out.1, HT6.out.2⟩⟩
            case measure => simp [intOf]; omega
      · obtain rfl : k = n := by omega
        have d4 : decide ((k : Int) < (k : Int)) = false := decide_eq_false (by omega)
        have d5 : decide (k < k) = false := decide_eq_false (by omega)
        go_wp2_with fail
        go_ret
        exact ⟨rfl, HR.out.2.2⟩
end Go.Proofs.YtnioagojiipjlaaGreat
