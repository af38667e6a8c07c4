/-
  What reading filters within filters comes to: list.
-/
import Derived.Test.YtnlbhmjgeedgpaaDoorFtH
set_option linter.unusedVariables false
set_option linter.unusedSimpArgs false
namespace Go.Proofs.YtnlbhmjgeedgpaaDoor
open Go.RowKit

theorem flOk_kids {kind : Int} {ls : List Mt.Fl} (h : ls.length ≤ 4096) : Mt.FlOk (.mk kind [] [] [] ls) :=
  ⟨Nat.zero_le _, Nat.zero_le _, Nat.zero_le _, (fun p hp => nomatch hp), Nat.le_trans h (by decide)⟩
set_option maxRecDepth 100000 in
set_option maxHeartbeats 2000000 in
theorem list10_any (d g : Nat) (hd : d ≤ 64) (hf : ReadsF (d + 1) g) (kind : Int) (l : List UInt8) (n : Nat) (w : World) (B : Nat) (hl : l.length ≤ 4096) (hn : n ≤ 1000) (hB : IsRd w B l n) :
    Calls Tryd.prog 48 #[.pointer (some ⟨B, 0, none⟩), .int .i64 kind, .int .i64 (d : Int)] w (FiltP w B (g + 1) (Mt.kidsP (Mt.filtP g) kind n l)) := by
  obtain ⟨R, hR⟩ : ∃ R, Mt.kidsP (Mt.filtP g) kind n l = R := ⟨_, rfl⟩
  have HR := Lib.hid hR
  rw [hR]
  have HF := Lib.hid hf
  have HBL := Lib.hid (lt_of_block hB)
  obtain ⟨w1, hw1⟩ : ∃ u, w.alloc (.cells #[.int .i64 0, .string ⟨#[]⟩, .string ⟨#[]⟩, .slice none 0 0, .slice none 0 0] 25) = u := ⟨_, rfl⟩
  have hg1 : w1.heap[w.heap.size]? = some (.cells #[.int .i64 0, .string ⟨#[]⟩, .string ⟨#[]⟩, .slice none 0 0, .slice none 0 0] 25) := by rw [← hw1]; exact heap_alloc_new w _
  have hb1 : Below w.heap.size w w1 := by rw [← hw1]; exact (Below.refl _ w).alloc (Nat.le_refl _) _
  have hs1 : w1.heap.size = w.heap.size + 1 := by rw [← hw1]; simp
  have HD1 : (d : Int) + 1 = ((d + 1 : Nat) : Int) := by omega
  have HD := Lib.hid HD1
  have HBr := Lib.hid hB
  have HG1 := Lib.hid hg1
  have HB1 := Lib.hid hb1
  have HS1 := Lib.hid hs1
  clear hR hf hB hg1 hb1 hs1 HD1
  go_enter Tryd.func48, Tryd.ntmps48
  go_upto_region 1 with fail
  clear hw1
  go_wp2_with fail
  obtain ⟨w2, hw2⟩ : ∃ u, w1.alloc (.cells #[.int .i64 kind, .string ⟨#[]⟩, .string ⟨#[]⟩, .slice none 0 0, .slice none 0 0] 25) = u := ⟨_, rfl⟩
  have hg2 : w2.heap[w1.heap.size]? = some (.cells #[.int .i64 kind, .string ⟨#[]⟩, .string ⟨#[]⟩, .slice none 0 0, .slice none 0 0] 25) := by rw [← hw2]; exact heap_alloc_new w1 _
  have hb2 : Below w1.heap.size w1 w2 := by rw [← hw2]; exact (Below.refl _ w1).alloc (Nat.le_refl _) _
  have hs2 : w2.heap.size = w1.heap.size + 1 := by rw [← hw2]; simp
  have HST : Hid (ListS w B w1.heap.size w2.heap.size g kind R l none 0 0 w2 ∧ w2.heap[w.heap.size]? = some (.cells #[.int .i64 0, .string ⟨#[]⟩, .string ⟨#[]⟩, .slice none 0 0, .slice none 0 0] 25)) := Lib.hid ⟨⟨hl, Below.onlyS (HB1.out.trans (hb2.mono HB1.out.size)) (Nat.le_refl _), ⟨n, hn, by
      unfold IsRd; rw [hb2.block B (Nat.lt_of_lt_of_le HBL.out HB1.out.size), HB1.out.block B HBL.out]; exact HBr.out, [], rfl, by omega, by rw [← Mt.kidsP_eq]; exact HR.out, w2.heap.size, [], Nat.le_refl _, by omega, IsRw.nil _ _ _ _, AreFls.nil _ _ _⟩, Nat.le_refl _, hg2⟩, (hb2.block _ (lt_of_block HG1.out)).trans HG1.out⟩
  have HB78 : Hid (w.heap.size < w1.heap.size ∧ w1.heap.size < w2.heap.size) := Lib.hid ⟨by have := HS1.out; omega, by omega⟩
  rw [hw2]
  clear hw2 hg2 hb2 hs2
  generalize w2.heap.size = base at *
  generalize w1.heap.size = b8 at *
  go_loopg [10] l.length (fun gh _ wr => ∃ (x : List UInt8) (a : Option Addr) (c k : Nat), gh = x.length ∧ Hid (ListS w B b8 base g kind R x a c k wr ∧ wr.heap[w.heap.size]? = some (.cells #[.int .i64 0, .string ⟨#[]⟩, .string ⟨#[]⟩, .slice none 0 0, .slice none 0 0] 25)))
  case atStart => exact ⟨l, none, 0, 0, rfl, HST⟩
  case round =>
    obtain ⟨x, a, c, k, rfl, HS⟩ := hrel
    obtain ⟨⟨hxl, hon, ⟨m, hm, hrd, ls, hlk, hkx, hRE, gk, xs, hgk, hgl, hrw, har⟩, hbw, hbx⟩, hres⟩ := HS.out
    obtain ⟨⟨r0, r1⟩, k0, k1⟩ := box2F hrd
    have HP := Lib.hid (hasPar_any x wr)
    have HRD := Lib.hid hrd
    have HRES := Lib.hid hres
    have HBX := Lib.hid hbx
    have HRW := Lib.hid hrw
    have HAR := Lib.hid har
    have HON := Lib.hid hon
    have HLK := Lib.hid hlk
    have HBW : Hid (base ≤ wr.heap.size) := Lib.hid hbw
    clear hbw
    cases hz : Mt.nextIs 40 x with
    | false =>
      have HN : Hid (R = .ok (.mk kind [] [] [] ls, m, x)) := Lib.hid (by rw [← hRE, Mt.listP_no ls hz]; rfl)
      rw [hz] at HP
      clear hz hRE hrd hres hbx hrw har hon hlk
      obtain ⟨⟨x0, x1, x2, x3, x4⟩, f0, f1, f2, f3, f4⟩ := box5F HRES.out
      obtain ⟨⟨y0, y1, y2, y3, y4⟩, -⟩ := box5F HBX.out
      go_wp2_with fail
      refine (HP.out).mono ?_
      rintro e w3 ⟨rfl, rfl⟩
      go_wp2_with fail
      refine ret5 rfl w.heap.size _ _ _ _ _ _ rfl rfl rfl Tryd.underlying25 Tryd.szFilter HRES.out ?_
      intro w5 ho _
      obtain ⟨a9, c9, e9, hk9⟩ := fkids_of (ok := fun b => base ≤ b) HRW.out hgk (HAR.out.keep (ok' := fun b => base ≤ b) (Nat.le_refl _) (fun b hb _ => hb.1) (fun _ _ _ => rfl)) HLK.out.symm
      have ea : a = a9 := by injection e9
      have ec : c = c9 := by injection e9
      subst ea ec
      rw [show k = ls.length from HLK.out.symm]
      have hb78 := HB78.out
      refine filtP_good (f := .mk kind [] [] [] ls) (pa := none) (pc := 0) (a := a) (c := c) HN.out (HON.out.thenBelow (ho.toBelow (by simp) HON.out.size)) ?_ ?_
      · refine ⟨none, 0, a, c, rfl, flOk_kids (by have := HLK.out; omega), .inl rfl, ?_⟩
        exact hk9.imp (fun b hb _ => by omega) (fun v f hv => hv.keep (fun b hb _ => by omega) (fun b hb hl => ho.block b hl (by simp; omega)) (Nat.le_refl _)) (fun b hb hl => ho.block b hl (by simp; omega))
      · rw [ho.block B (lt_of_block HRD.out) (by simp; have := HBL.out; omega)]
        exact HRD.out
    | true =>
      rw [hz] at HP
      have HC : Hid (Calls Tryd.prog 20 #[.pointer (some ⟨B, 0, none⟩), .int .i64 ((d : Int) + 1)] wr (FiltP wr B g (Mt.filtP g m x))) := Lib.hid (by
        have := HF.out x m wr B hxl hm HRD.out
        rw [← HD.out] at this; exact this)
      cases hP : Mt.filtP g m x with
      | error e =>
        have HN : Hid (R = .error e) := Lib.hid (by rw [← hRE, Mt.listP_bad ls hz hP]; rfl)
        rw [hP] at HC
        clear hz hRE hrd hres hbx hrw har hon hlk hP
        go_wp2_with fail
        refine (HP.out).mono ?_
        rintro e3 w3 ⟨rfl, rfl⟩
        go_wp2_with fail
        refine (HC.out).mono ?_
        rintro e4 w4 ⟨ho4, rfl, hke⟩
        have hne : (((e : Nat) : Int) != 0) = true := by simp; exact hke
        have HO4 := Lib.hid (HON.out.trans ho4)
        have HR4 := Lib.hid ((ho4.block _ (lt_of_block HRES.out) (by simp; have := HBL.out; omega)).trans HRES.out)
        have HKE := Lib.hid hke
        simp only [zeroF]
        clear ho4 hke r0 r1 k0 k1
        go_upto_region 4 with fail
        have hb5 := (Below.refl w4.heap.size w4).alloc (Nat.le_refl _) (.cells #[.int .i64 0, .string ⟨#[]⟩, .string ⟨#[]⟩, .slice none 0 0, .slice none 0 0] 25)
        generalize w4.alloc (.cells #[.int .i64 0, .string ⟨#[]⟩, .string ⟨#[]⟩, .slice none 0 0, .slice none 0 0] 25) = w5 at *
        have HB5 := Lib.hid hb5
        have HR5 := Lib.hid ((hb5.block _ (lt_of_block HR4.out)).trans HR4.out)
        clear hb5
        obtain ⟨⟨x0, x1, x2, x3, x4⟩, f0, f1, f2, f3, f4⟩ := box5F HR5.out
        go_wp2_with fail
        refine ret5 rfl w.heap.size _ _ _ _ _ _ rfl rfl rfl Tryd.underlying25 Tryd.szFilter HR5.out ?_
        intro w6 ho _
        exact filtP_bad HN.out HKE.out ((HO4.out.then HB5.out).thenBelow (ho.toBelow (by simp) (Nat.le_trans HO4.out.size HB5.out.size)))
      | ok p =>
        obtain ⟨f, m2, y⟩ := p
        have HE : Hid (y.length < x.length) := Lib.hid (Mt.filtP_eats g _ _ _ _ _ hP)
        have HM2 : Hid (m2 ≤ 1000) := Lib.hid (Mt.filtP_cnt g _ _ _ _ _ hP)
        have HRN : Hid (Mt.endK kind (Mt.ontoF (ls ++ [f]) (Mt.listP (Mt.filtP g) y.length m2 y)) = R) := Lib.hid (by rw [← hRE, Mt.listP_good (Mt.filtP_eats g) ls hz hP])
        rw [hP] at HC
        have HGK := Lib.hid hgk
        have HKX := Lib.hid hkx
        clear hz hRE hrd hres hbx hrw har hon hlk hP hgk hgl
        go_wp2_with fail
        refine (HP.out).mono ?_
        rintro e3 w3 ⟨rfl, rfl⟩
        go_wp2_with fail
        refine (HC.out).mono ?_
        rintro e4 w4 ⟨ho4, pa, pc, a4, c4, rfl, hfl, hB4⟩
        have HO4 := Lib.hid ho4
        have HFL := Lib.hid hfl
        have HB4 := Lib.hid hB4
        have HR4 := Lib.hid ((ho4.block _ (lt_of_block HRES.out) (by simp; have := HBL.out; omega)).trans HRES.out)
        have HX4 := Lib.hid ((ho4.block _ (lt_of_block HBX.out) (by simp; have := HBL.out; have := HB78.out; omega)).trans HBX.out)
        simp only [flV]
        clear ho4 hfl hB4 r0 r1 k0 k1
        go_upto_region 6 with fail
        have hb5 := (Below.refl w4.heap.size w4).alloc (Nat.le_refl _) (.cells #[.int .i64 f.kind, .string (Mt.str f.attr), .string (Mt.str f.value), .slice pa f.pcs.length pc, .slice a4 f.kids.length c4] 25)
        have h9 := heap_alloc_new w4 (.cells #[.int .i64 f.kind, .string (Mt.str f.attr), .string (Mt.str f.value), .slice pa f.pcs.length pc, .slice a4 f.kids.length c4] 25)
        generalize w4.alloc (.cells #[.int .i64 f.kind, .string (Mt.str f.attr), .string (Mt.str f.value), .slice pa f.pcs.length pc, .slice a4 f.kids.length c4] 25) = w5 at *
        have HB5 := Lib.hid hb5
        have H9 := Lib.hid h9
        have HR5 := Lib.hid ((hb5.block _ (lt_of_block HR4.out)).trans HR4.out)
        have HX5 := Lib.hid ((hb5.block _ (lt_of_block HX4.out)).trans HX4.out)
        have HRD5 := Lib.hid ((hb5.block _ (lt_of_block HB4.out)).trans HB4.out)
        clear hb5 h9
        have HPU : Hid (∃ a' c' w6 g', (∀ ty, (Builtin.append_ #[23, 23] ty #[.slice a k c, .slice (some ⟨w5.heap.size, 0, none⟩) 1 1]).run Tryd.prog (w5.alloc (.cells #[.int .i64 f.kind, .string (Mt.str f.attr), .string (Mt.str f.value), .slice pa f.pcs.length pc, .slice a4 f.kids.length c4] 25)) = .ok (.slice a' (k + 1) c') w6) ∧
            ListS w B b8 base g kind R y a' c' (k + 1) (w6.setCell ⟨b8, 4, none⟩ (.slice a' (k + 1) c')) ∧ (w6.setCell ⟨b8, 4, none⟩ (.slice a' (k + 1) c')).heap[w.heap.size]? = some (.cells #[.int .i64 0, .string ⟨#[]⟩, .string ⟨#[]⟩, .slice none 0 0, .slice none 0 0] 25) ∧ w6.heap[b8]? = some (.cells #[.int .i64 kind, .string ⟨#[]⟩, .string ⟨#[]⟩, .slice none 0 0, .slice a k c] 25) ∧ base ≤ g') := Lib.hid (by
          have hsz := HO4.out.size
          have hsz5 := HB5.out.size
          have hBL := HBL.out
          have hb78 := HB78.out
          have hbase : base ≤ wr.heap.size + 0 ∨ True := .inr trivial
          obtain ⟨gk2, hgk2, hrw2, har2, hne2⟩ : ∃ gk2, base ≤ gk2 ∧ IsRw 25 5 wr gk2 (.slice a k c) k xs ∧ AreFls wr (fun b => base ≤ b ∧ b ≠ gk2) g xs ls ∧ (gk2 < wr.heap.size ∨ w5.heap.size ≤ gk2) := by
            rcases HRW.out.norm (max base w5.heap.size) with h | h
            · exact ⟨gk, HGK.out, HRW.out, HAR.out, .inl h⟩
            · refine ⟨max base w5.heap.size, by omega, h, HAR.out.keep (Nat.le_refl _) (fun b hb hl => ⟨hb.1, by omega⟩) (fun _ _ _ => rfl), .inr (by omega)⟩
          have hrw4 : IsRw 25 5 w5 gk2 (.slice a k c) ls.length xs := by
            rw [HLK.out]
            exact (hrw2.other HO4.out (by simp; omega)).below HB5.out
          have har5 : AreFls w5 (fun b => base ≤ b ∧ b ≠ gk2) g xs ls := har2.keep (Nat.le_refl _) (fun _ h _ => h) (fun b hb hl => (HB5.out.block b (by omega)).trans (HO4.out.block b hl (by simp; omega)))
          have hbw : base ≤ w5.heap.size := by
            have h1 := lt_of_block HX5.out
            have := HBW.out; omega
          have hx5 : IsFl w5 (fun b => base ≤ b ∧ b ≠ gk2) g (.agg #[.int .i64 f.kind, .string (Mt.str f.attr), .string (Mt.str f.value), .slice pa f.pcs.length pc, .slice a4 f.kids.length c4]) f := by
            refine (HFL.out.below HB5.out).keep (u := w5) (fun b hb hl => ?_) (fun _ _ _ => rfl) (Nat.le_refl _)
            have := HBW.out
            exact ⟨by omega, by omega⟩
          obtain ⟨a', c', w6, g', hrun, hrw6, har6, hg6, ho6, hl6⟩ := fls_append hrw4 har5 hgk2 hbw hx5 (by have := HLK.out; have := HKX.out; omega)
          rw [HLK.out] at hrun
          have hX6 := (ho6.block b8 (lt_of_block HX5.out) (by simp; omega)).trans HX5.out
          have ho7 := (OnlyS.refl [b8] w6).setCell (g := b8) (i := 4) (by simp) (.slice a' (k + 1) c')
          have hX7 := heap_setCell_same w6 b8 4 _ 25 (.slice a' (k + 1) c') hX6
          refine ⟨a', c', w6, g', hrun, ?_, ?_, hX6, hg6⟩
          · generalize w6.setCell ⟨b8, 4, none⟩ (.slice a' (k + 1) c') = w7 at *
            have hbel : Below w.heap.size w4 w7 := (HB5.out.mono (Nat.le_trans HON.out.size hsz)).trans ((ho6.toBelow (by simp; omega) (by have := HON.out.size; omega)).trans (ho7.toBelow (by simp; omega) (by have := HON.out.size; have := ho6.size; omega)))
            refine ⟨by have := HE.out; omega, (HON.out.trans HO4.out).thenBelow hbel, ⟨m2, HM2.out, ?_, ls ++ [f], by rw [List.length_append, HLK.out]; rfl, by have := HE.out; have := HKX.out; omega, HRN.out, g', xs ++ [.int .i64 f.kind, .string (Mt.str f.attr), .string (Mt.str f.value), .slice pa f.pcs.length pc, .slice a4 f.kids.length c4], hg6, by have := ho7.size; omega, ?_, ?_⟩, by have := ho7.size; have := ho6.size; omega, hX7⟩
            · unfold IsRd
              rw [ho7.block B (by have := ho6.size; have := HBL.out; have := HON.out.size; omega) (by simp; omega), ho6.block B (by have := HON.out.size; omega) (by simp; omega)]
              exact HRD5.out
            · rw [List.length_append, HLK.out] at hrw6
              exact hrw6.other ho7 (by simp; omega)
            · exact har6.keep (Nat.le_refl _) (fun _ h _ => h) (fun b hb hl => ho7.block b hl (by simp; omega))
          · rw [ho7.block _ (by have := ho6.size; have := lt_of_block HR5.out; omega) (by simp; omega), ho6.block _ (lt_of_block HR5.out) (by simp; omega)]
            exact HR5.out)
        obtain ⟨a', c', w6, g', hrun, hls, hres6, hX6, hg6⟩ := HPU.out
        have HLS := Lib.hid (And.intro hls hres6)
        have HX6 := Lib.hid hX6
        clear hls hres6 hX6 HPU
        obtain ⟨⟨y0, y1, y2, y3, y4⟩, -⟩ := box5F H9.out
        obtain ⟨⟨-, -, -, -, z4⟩, -⟩ := box5F HX5.out
        obtain ⟨⟨q0, q1, q2, q3, q4⟩, v0, v1, v2, v3, v4⟩ := box5F HX6.out
        go_wp2_with (refine wpList_append_run rfl _ _ 23 23 rfl _ _ rfl rfl hrun ?_)
        go_wp2_with fail
        go_roundg y.length
        case rel => exact ⟨y, a', c', k + 1, rfl, HLS⟩
        case measure => exact HE.out
end Go.Proofs.YtnlbhmjgeedgpaaDoor
