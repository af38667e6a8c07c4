/-
  What the document's Sum256 comes to.
-/
import Derived.Test.YtpdionmecflibaaDoorL4
import Derived.Test.YtpdionmecflibaaDoorL8
import Derived.Test.YtpdionmecflibaaDoorRFold
namespace Go.Proofs.YtpdionmecflibaaDoor
open Go.RowKit

set_option maxHeartbeats 4000000 in
set_option maxRecDepth 100000 in
theorem rall_any (s : ByteArray) (w : World) (hs : s.size ≤ 1099511627000) :
    Calls Tryd.prog 10 #[.string s] w fun e w' => e = .returned (.string (Mt.str (Mt.sha s.data.toList))) ∧ Below w.heap.size w w' := by
  obtain ⟨i8, hi, hz0, hz1, hz2⟩ := info_parts Tryd.infoU32
  obtain ⟨v0, w0, hcv, ho0, hb0⟩ := conv_B s w (by omega)
  have HO0 := Lib.hid ho0
  have HB0 := Lib.hid hb0
  obtain ⟨S, hS⟩ : ∃ S, s.size = S := ⟨_, rfl⟩
  have HS := Lib.hid hS
  obtain ⟨M, hM⟩ : ∃ M, s.data.toList = M := ⟨_, rfl⟩
  have HM := Lib.hid hM
  have HML := Lib.hid (show M.length = S by rw [← hM, ← hS]; rfl)
  rw [hS] at hs HO0
  rw [hM] at HO0
  clear ho0 hb0 hM
  go_enter Tryd.func10, Tryd.ntmps10
  go_upto_region 2 with (at_builtin; refine wpList_append_B _ rfl _ _ rfl w.heap.size S M v0 rfl (HO0.out.below ((Below.refl _ _).alloc (Nat.le_refl _) _)) ⟨w0.heap.size, 0, none⟩ 128 128 rfl 1 rfl (cell_new1 _ _ _) (by have := HB0.out.size; simp; omega) (by omega) ?_; intro v1 v1w ho1 hb1)
  have HB1 := Lib.hid ((HB0.out.alloc HB0.out.size _).trans hb1)
  have HO1 := Lib.hid (show OwnB v1w w.heap.size v1 (S + 1 + 0) (M ++ 128 :: List.replicate 0 0) from ho1)
  clear ho1 hb1 HB0 HO0
  obtain ⟨z, hz⟩ : ∃ z, Mt.zs S = z := ⟨_, rfl⟩
  have HZF := Lib.hid (show z = (119 - S % 64) % 64 by rw [← hz]; rfl)
  have HZ := Lib.hid hz
  clear hz
  go_loopw [3] (fun v wr => ∃ m g cp : Nat, m ≤ z ∧ v = .slice (some ⟨g, 0, none⟩) (S + 1 + m) cp ∧ Hid (OwnB wr w.heap.size (.slice (some ⟨g, 0, none⟩) (S + 1 + m) cp) (S + 1 + m) (M ++ 128 :: List.replicate m 0)) ∧ Hid (Below w.heap.size w wr))
    (fun v _ => S + 128 - lenV v)
  case atStart =>
    obtain ⟨g, cp, rfl⟩ := HO1.out.form
    exact ⟨0, g, cp, Nat.zero_le _, rfl, HO1, HB1⟩
  case round =>
    clear HO1 HB1
    obtain ⟨m, gA, cpA, hm, rfl, HO, HB⟩ := hrel
    have hz63 : z ≤ 63 := by have := HZF.out; omega
    by_cases hlt : m < z
    · have ht : ((((S + 1 + m : Nat) : Int) % 64) != 56) = true := by
        have := HZF.out
        simp; omega
      go_wp2_with (at_builtin; refine wpList_append_B _ rfl _ _ rfl w.heap.size (S + 1 + m) _ _ rfl (HO.out.below ((Below.refl _ _).alloc (Nat.le_refl _) _)) ⟨wr.heap.size, 0, none⟩ 0 0 rfl 1 rfl (cell_new1 _ _ _) (by have := HB.out.size; simp; omega) (by omega) ?_; intro v2 w2 ho2 hb2)
      have HB2 : Hid (Below w.heap.size w w2) := Lib.hid ((HB.out.alloc HB.out.size _).trans hb2)
      have HO2 := Lib.hid ho2
      clear hb2 ho2 HO HB
      go_roundw
      case rel =>
        obtain ⟨g2, cp2, rfl⟩ := HO2.out.form
        refine ⟨m + 1, g2, cp2, by omega, rfl, Lib.hid ?_, HB2⟩
        have e : M ++ 128 :: List.replicate (m + 1) 0 = M ++ 128 :: List.replicate m 0 ++ [0] := by
          rw [List.replicate_succ', ← List.cons_append, ← List.append_assoc]
        rw [e]
        exact HO2.out
      case measure =>
        obtain ⟨g2, cp2, rfl⟩ := HO2.out.form
        simp [lenV]; omega
    · obtain rfl : m = z := by omega
      have ht : ((((S + 1 + m : Nat) : Int) % 64) != 56) = false := by
        have := HZF.out
        simp; omega
      have HOW : Hid (OwnB wr w.heap.size (.slice (some ⟨gA, 0, none⟩) (S + 1 + m) cpA) (S + 1 + m + 0) (M ++ 128 :: List.replicate m 0 ++ (Mt.be8 (8 * S) 8).take 0)) := Lib.hid (by simpa using HO.out)
      have hbits : (8 * (S : Int)) % 18446744073709551616 = 8 * (S : Int) := by omega
      have hbits2 : (S : Int) % 18446744073709551616 = (S : Int) := by omega
      have HSS := HS.out
      clear HO
      go_wp2_with fail
      obtain ⟨N, hN⟩ : ∃ N, S + 1 + m = N := ⟨_, rfl⟩
      rw [hN] at HOW ⊢
      have HNN := Lib.hid hN
      clear hN ht
      generalize (((S : Int) + 1 + (m : Int)) % 64 != 56) = t29
      generalize (((S : Int) + 1 + (m : Int)) % 64) = t28
      generalize ((S : Int) + 1 + (m : Int)) = t27
      go_loopw [3, 5] (fun v i wr => ∃ (k g cp : Nat), k ≤ 8 ∧ i = .int .i64 k ∧ v = .slice (some ⟨g, 0, none⟩) (N + k) cp ∧ Hid (OwnB wr w.heap.size (.slice (some ⟨g, 0, none⟩) (N + k) cp) (N + k) (M ++ 128 :: List.replicate m 0 ++ (Mt.be8 (8 * S) 8).take k)) ∧ Hid (Below w.heap.size w wr))
        (fun _ i _ => 8 - (intOf i).toNat)
      case atStart => exact ⟨0, gA, cpA, by omega, rfl, rfl, HOW, HB⟩
      case round =>
        clear HOW HB
        obtain ⟨k, g, cp, hk, rfl, rfl, HO, HB⟩ := hrel
        by_cases hk8 : k < 8
        · have hk8' : (k : Int) < 8 := by omega
          have HSN := Lib.hid (Mt.be8_snoc (8 * S) 8 k (7 - k) (by omega))
          have hNb : N ≤ 1099511627700 := by have := HNN.out; omega
          have HY := Lib.hid (show (8 * (S : Int)) / 2 ^ (56 - 8 * k) % 256 = ((UInt8.ofNat (8 * S / 256 ^ (7 - k))).toNat : Int) by
            have h := Mt.byte_of (8 * S) (7 - k)
            rw [show 8 * (7 - k) = 56 - 8 * k by omega, Int.natCast_mul] at h
            rw [UInt8.toNat_ofNat']
            exact h)
          go_wp2_with (at_builtin; refine wpList_append_B _ rfl _ _ rfl w.heap.size (N + k) _ _ rfl (HO.out.below ((Below.refl _ _).alloc (Nat.le_refl _) _)) ⟨wr.heap.size, 0, none⟩ _ _ HY.out 1 rfl (cell_new1 _ _ _) (by have := HB.out.size; simp; omega) (by omega) ?_; intro v2 w2 ho2 hb2)
          have HB2 : Hid (Below w.heap.size w w2) := Lib.hid ((HB.out.alloc HB.out.size _).trans hb2)
          have HO2 := Lib.hid ho2
          clear hb2 ho2 HO HB
          go_roundw
          case rel =>
            obtain ⟨g2, cp2, rfl⟩ := HO2.out.form
            refine ⟨k + 1, g2, cp2, by omega, by go_num, rfl, Lib.hid ?_, HB2⟩
            rw [HSN.out, ← List.append_assoc]
            exact HO2.out
          case measure => simp [intOf]; omega
        · obtain rfl : k = 8 := by omega
          have hk8' : decide ((8 : Int) < 8) = false := rfl
          obtain ⟨q, hq⟩ : ∃ q, N + 8 = 64 * q := ⟨(N + 8) / 64, by have h1 := HNN.out; have h2 := HZF.out; omega⟩
          obtain ⟨L, hL⟩ : ∃ L, M ++ 128 :: List.replicate m 0 ++ (Mt.be8 (8 * S) 8).take 8 = L := ⟨_, rfl⟩
          have HLP := Lib.hid (show L = M ++ Mt.pd S by
            rw [← hL, List.take_of_length_le (by rw [Mt.be8_length]; exact Nat.le_refl _)]
            unfold Mt.pd
            rw [HZ.out, show 8 * S % 18446744073709551616 = 8 * S by omega]
            simp)
          rw [hq, hL] at HO
          have HQ := Lib.hid hq
          rw [hq]
          clear hL hq
          go_wp2_with fail
          refine (primes_any _).mono ?_
          rintro e w2 ⟨v2, rfl, ho2, hb2⟩
          have HP2 := Lib.hid (own_mono (b0 := w.heap.size) ho2 HB.out.size)
          have HO2 := Lib.hid (HO.out.below hb2)
          have HB2 := Lib.hid (HB.out.trans (hb2.mono HB.out.size))
          clear ho2 hb2 HO HB
          obtain ⟨gp, cpp, rfl⟩ := own_form HP2.out (by decide)
          go_wp2_with fail
          have HPB := Lib.hid (fun (i : Nat) (hi : i < 64) => show w2.cell? ⟨gp, i, none⟩ = some (.int .u64 (((Mt.pl 310).getD i 0 : Nat) : Int)) by
            rw [HP2.out.cellAt i (by omega)]; exact Mt.c64_get _ _ (by rw [Mt.pl_310]; exact hi))
          have HGP := Lib.hid (HP2.out.lt gp rfl).2
          go_loopw [7, 8, 54] (fun hv kv i wr => ∃ j : Nat, j ≤ 64 ∧ i = .int .i64 j ∧ Hid (j = 0 → hv = .slice none 0 0 ∧ kv = .slice none 0 0) ∧ Hid (wr.ownsRow w2.heap.size 53 1 hv (min j 8) (Mt.c32 (Mt.V0.list.take j))) ∧ Hid (wr.ownsRow w2.heap.size 53 1 kv j (Mt.c32 (Mt.K.take j))) ∧ Hid (Below w2.heap.size w2 wr))
            (fun _ _ i _ => 64 - (intOf i).toNat)
          case atStart => exact ⟨0, by omega, rfl, Lib.hid (fun _ => ⟨rfl, rfl⟩), Lib.hid (World.ownsRow_nil _ _ _ _), Lib.hid (World.ownsRow_nil _ _ _ _), Lib.hid (Below.refl _ _)⟩
          case round =>
            obtain ⟨j, hj, rfl, HNIL, HH, HK, HBW⟩ := hrel
            by_cases hj64 : j < 64
            · have hj64' : (j : Int) < 64 := by omega
              have hcell : wr.cell? ⟨gp, j, none⟩ = some (.int .u64 (((Mt.pl 310).getD j 0 : Nat) : Int)) := by
                rw [HBW.out.cell (p := ⟨gp, j, none⟩) HGP.out]; exact HPB.out j hj64
              have hpm : (Mt.pl 310).getD j 0 ∈ Mt.pl 310 := by
                have hl : j < (Mt.pl 310).length := by rw [Mt.pl_310]; exact hj64
                have e : (Mt.pl 310).getD j 0 = (Mt.pl 310)[j] := by simp only [List.getD]; rw [List.getElem?_eq_getElem hl]; rfl
                rw [e]; exact List.getElem_mem _
              have HP311 := Lib.hid (Mt.pl_pos 310 _ hpm).2
              have HCU := Lib.hid (cubes_get j hj64)
              have HRO := Lib.hid (fun h8 => roots_get j h8)
              generalize (Mt.pl 310).getD j 0 = p at hcell HP311 HCU HRO
              have HCUBE := Lib.hid (fun u => cube_any p u (by have := HP311.out; omega))
              have HROOT := Lib.hid (fun u => root_any p u)
              have HKS := Lib.hid (Mt.c32_snoc Mt.K j hj64)
              have hsz := HBW.out.size
              clear hpm
              by_cases hj8 : j < 8
              · have hj8' : (j : Int) < 8 := by omega
                have HHS := Lib.hid (Mt.c32_snoc Mt.V0.list j hj8)
                rw [show min j 8 = j by omega] at HH
                have hownh := HH.out
                have hownk := HK.out
                go_wp2_with fail
                refine (HROOT.out _).mono ?_
                rintro e w' ⟨rfl, rfl⟩
                rw [HRO.out hj8]
                have HNE : Hid (u8.ownBlock = none ∨ u8.ownBlock ≠ u7.ownBlock) := Lib.hid (by
                  rcases Nat.eq_zero_or_pos j with h0 | h0
                  · exact .inl (by rw [(HNIL.out h0).2]; rfl)
                  · refine own_apart HH.out HK.out h0 h0 ?_
                    obtain ⟨j', rfl⟩ : ∃ j', j = j' + 1 := ⟨j - 1, by omega⟩
                    intro h; cases h)
                go_upto_region 16 with (at_builtin; refine wpList_append_own _ rfl _ _ 52 rfl w2.heap.size 53 i8 (.int .u32 0) 1 4 Tryd.underlying52 hi hz0 hz1 hz2 rfl (by decide) _ _ _ rfl (hownh.alloc _) ⟨wr.heap.size, 0, none⟩ 1 1 [.int .u32 ((Mt.V0.list.getD j 0 : Nat) : Int)] rfl rfl (cell_one_new _ _ _) (by simp [Value.oneCell']) (by unfold maxLen; omega) (by omega) (by simp; omega) ?_; intro h3 w3 hown3 hgr3 _)
                have HK3 := Lib.hid ((hownk.alloc _).kept hgr3 HNE.out)
                have HB3 : Hid (Below w2.heap.size w2 w3) := Lib.hid ((HBW.out.alloc (by omega) _).grown hgr3 (by simp; omega) (fun j hj => (hownh.lt j hj).1))
                have HH3 := Lib.hid hown3
                have hsz3 := HB3.out.size
                have hownk3 := HK3.out
                have HNE3 : Hid (h3.ownBlock = none ∨ h3.ownBlock ≠ u8.ownBlock) := Lib.hid (by
                  rcases Nat.eq_zero_or_pos j with h0 | h0
                  · right
                    rw [(HNIL.out h0).2]
                    obtain ⟨g3, c3, rfl⟩ := own_form hown3 (by omega)
                    intro h; cases h
                  · refine own_apart HK3.out hown3 h0 (by omega) ?_
                    obtain ⟨j', rfl⟩ : ∃ j', j = j' + 1 := ⟨j - 1, by omega⟩
                    intro h; cases h)
                clear hgr3 hown3 hownh hownk HK HH HBW HNE hcell
                go_wp2_with fail
                refine (HCUBE.out _).mono ?_
                rintro e w' ⟨rfl, rfl⟩
                rw [HCU.out]
                go_wp2_with (at_builtin; refine wpList_append_own _ rfl _ _ 52 rfl w2.heap.size 53 i8 (.int .u32 0) 1 4 Tryd.underlying52 hi hz0 hz1 hz2 rfl (by decide) _ _ _ rfl (hownk3.alloc _) ⟨w3.heap.size, 0, none⟩ 1 1 [.int .u32 ((Mt.K.getD j 0 : Nat) : Int)] rfl rfl (cell_one_new _ _ _) (by simp [Value.oneCell']) (by unfold maxLen; omega) (by omega) (by simp; omega) ?_; intro k4 w4 hown4 hgr4 _)
                have HH4 := Lib.hid ((HH3.out.alloc _).kept hgr4 HNE3.out)
                have HB4 : Hid (Below w2.heap.size w2 w4) := Lib.hid ((HB3.out.alloc (by omega) _).grown hgr4 (by simp; omega) (fun j hj => (hownk3.lt j hj).1))
                have HK4 := Lib.hid hown4
                clear hgr4 hown4 hownk3 HK3 HH3 HB3
                go_roundw
                case rel =>
                  refine ⟨j + 1, by omega, by go_num, Lib.hid (fun h => by omega), Lib.hid ?_, Lib.hid ?_, HB4⟩
                  · rw [show min (j + 1) 8 = j + 1 by omega, HHS.out]; exact HH4.out
                  · rw [HKS.out]; exact HK4.out
                case measure => simp [intOf]; omega
              · have hj8' : decide ((j : Int) < 8) = false := decide_eq_false (by omega)
                rw [show min j 8 = 8 by omega] at HH
                have hownk := HK.out
                have HNE3 : Hid (u7.ownBlock = none ∨ u7.ownBlock ≠ u8.ownBlock) := Lib.hid (by
                  refine own_apart HK.out HH.out (by omega) (by omega) ?_
                  obtain ⟨j', rfl⟩ : ∃ j', j = j' + 1 := ⟨j - 1, by omega⟩
                  intro h; cases h)
                go_wp2_with fail
                refine (HCUBE.out _).mono ?_
                rintro e w' ⟨rfl, rfl⟩
                rw [HCU.out]
                go_wp2_with (at_builtin; refine wpList_append_own _ rfl _ _ 52 rfl w2.heap.size 53 i8 (.int .u32 0) 1 4 Tryd.underlying52 hi hz0 hz1 hz2 rfl (by decide) _ _ _ rfl (hownk.alloc _) ⟨wr.heap.size, 0, none⟩ 1 1 [.int .u32 ((Mt.K.getD j 0 : Nat) : Int)] rfl rfl (cell_one_new _ _ _) (by simp [Value.oneCell']) (by unfold maxLen; omega) (by omega) (by simp; omega) ?_; intro k4 w4 hown4 hgr4 _)
                have HH4 := Lib.hid ((HH.out.alloc _).kept hgr4 HNE3.out)
                have HB4 : Hid (Below w2.heap.size w2 w4) := Lib.hid ((HBW.out.alloc (by omega) _).grown hgr4 (by simp; omega) (fun j hj => (hownk.lt j hj).1))
                have HK4 := Lib.hid hown4
                clear hgr4 hown4 hownk HK HH HBW
                go_roundw
                case rel =>
                  refine ⟨j + 1, by omega, by go_num, Lib.hid (fun h => by omega), Lib.hid ?_, Lib.hid ?_, HB4⟩
                  · rw [show min (j + 1) 8 = 8 by omega]
                    have e : Mt.V0.list.take (j + 1) = Mt.V0.list.take j := by
                      have hl : Mt.V0.list.length = 8 := rfl
                      rw [List.take_of_length_le (by omega), List.take_of_length_le (by omega)]
                    rw [e]; exact HH4.out
                  · rw [HKS.out]; exact HK4.out
                case measure => simp [intOf]; omega
            · have hj64' : decide ((j : Int) < 64) = false := decide_eq_false (by omega)
              have HHF : Hid (wr.ownsRow w2.heap.size 53 1 u7 8 (Mt.c32 Mt.V0.list)) := Lib.hid (by
                obtain rfl : j = 64 := by omega
                exact HH.out)
              have HKF : Hid (wr.ownsRow w2.heap.size 53 1 u8 64 (Mt.c32 Mt.K)) := Lib.hid (by
                obtain rfl : j = 64 := by omega
                exact HK.out)
              clear HH HK HNIL hj hj64
              obtain ⟨gh, ch, rfl⟩ := own_form HHF.out (by decide)
              obtain ⟨gk, ck, rfl⟩ := own_form HKF.out (by decide)
              go_wp2_with fail
              have HGL : Hid (L.length = 64 * q) := Lib.hid HO2.out.1
              obtain ⟨hgw2, hgb⟩ : g < w2.heap.size ∧ ∀ i, i < 64 * q → w2.cell? ⟨g, i, none⟩ = some (.int .u8 ((L.getD i 0).toNat : Int)) := by
                obtain ⟨_, g', cap', e, _, hg, _, h1, _⟩ := HO2.out
                injection e with e1 _ _
                obtain rfl : g = g' := by simpa using e1
                exact ⟨hg, h1⟩
              have hgh := HHF.out.lt gh rfl
              have hgk := HKF.out.lt gk rfl
              have HGK := Lib.hid (show gk ≠ gh by
                rcases own_apart HHF.out HKF.out (by decide) (by decide) (by intro h; cases h) with h | h
                · cases h
                · intro e; subst e; exact h rfl)
              have HBC := Lib.hid (fun (i : Nat) (hi : i < 64 * q) => show wr.cell? ⟨g, i, none⟩ = some (.int .u8 ((L.getD i 0).toNat : Int)) by
                rw [HBW.out.cell (p := ⟨g, i, none⟩) hgw2]; exact hgb i hi)
              have HKC := Lib.hid (fun (i : Nat) (hi : i < 64) => show wr.cell? ⟨gk, i, none⟩ = some (.int .u32 ((Mt.K.getD i 0 : Nat) : Int)) by
                rw [HKF.out.cellAt i (by omega)]; exact Mt.c32_get _ _ hi)
              have HH0 : Hid (H8 wr gh (Mt.hb Mt.V0 L 0)) := Lib.hid (by
                rcases HHF.out.2 with ⟨h, _⟩ | ⟨g', cap', cur, h1, _, h3, _, _, _, h7⟩
                · cases h
                · injection h1 with e1 _ _
                  obtain rfl : gh = g' := by simpa using e1
                  refine ⟨cur, h3, fun i hi => ?_⟩
                  have h8 : (Mt.c32 Mt.V0.list)[i]? = some (.int .u32 ((Mt.V0.list.getD i 0 : Nat) : Int)) := Mt.c32_get _ _ hi
                  rw [← h7, List.getElem?_take, if_pos (by omega), Array.getElem?_toList] at h8
                  exact h8)
              have HSZ := Lib.hid (show g < wr.heap.size ∧ gk < wr.heap.size ∧ gh < wr.heap.size ∧ g ≠ gh from ⟨Nat.lt_of_lt_of_le hgw2 HBW.out.size, hgk.2, hgh.2, by omega⟩)
              have HB5 := Lib.hid (HB2.out.trans (HBW.out.mono HB2.out.size))
              have HGHB := Lib.hid (show w.heap.size ≤ gh by have := HB2.out.size; omega)
              clear hgw2 hgb hgh hgk HBW HHF HKF HPB HGP HP2 HO2
              generalize hw5 : wr = w5 at HBC HKC HH0 HSZ HB5 ⊢
              clear hw5
              have HQ2 := Lib.hid (show 64 * q ≤ 1099511627776 from by have h1 := HQ.out; have h2 := HNN.out; omega)
              refine loop4 g q cp gh ch gk ck Mt.V0 L w5 _ _ Mt.V0_ok HQ2.out HSZ.out.1 HSZ.out.2.1 HSZ.out.2.2.1 HSZ.out.2.2.2 HGK.out HBC.out HKC.out HH0.out ?_
              intro y11 y12 y13 y14 y15 y16 y17 y18 y72 y73 y74 y75 y76 y77 y78 y79 y80 y81 y82 y83 y84 y85 y86 y87 y88 y89 y90 y91 y92 y93 y94 y95 y96 y97 y98 y99 y100 y101 y102 y103 y104 y105 y106 y107 y108 y109 y110 y111 y112 y113 y114 y115 y116 y117 y118 y119 y120 y121 y122 y123 y124 y125 y126 y127 y128 y129 y130 y131 y132 y133 y134 y135 y136 y137 y138 y139 y140 y141 y142 y143 y144 y145 y146 y147 y148 y149 y150 y151 y152 y153 y154 y155 y156 y157 y158 y159 y160 y161 y162 y163 y164 y165 y166 y167 y168 y169 y170 y171 y172 y173 y174 y175 y176 y177 y178 y179 y180 y181 y182 y183 y184 y185 y186 y187 y188 y189 y190 y191 y192 y193 y194 y195 y196 y197 y198 y199 y200 u4 h84 ho4
              have HB6 := Lib.hid (HB5.out.trans (ho4.toBelow HGHB.out HB5.out.size))
              have HH6 := Lib.hid h84
              clear h84 ho4 HB5 HH0 HBC HKC
              conv => zeta
              go_wp2_with fail
              refine loop8 gh ch (Mt.hb Mt.V0 L q) u4 _ _ (Mt.hb_ok Mt.V0_ok L q) HH6.out.has ?_
              intro y19 y21 z203 y204 y205 y206 y207 y208 y209 y210 y211 y212 y213 y214 y215 y216 y217 y218 y219 y220 y221 y222 y223 y224 y225 y226 y227 y228 y229 y230 u5 ho5 hb5
              have HB7 := Lib.hid (HB6.out.trans (hb5.mono HB6.out.size))
              have hcv5 := conv_ownb (Mt.out (Mt.hb Mt.V0 L q)) u4.heap.size 32 y19 u5 ho5
              have HE : Hid (Mt.out (Mt.hb Mt.V0 L q) = Mt.sha M) := Lib.hid (by
                have h1 := HLP.out
                have h2 := HML.out
                have h3 := HGL.out
                unfold Mt.sha Mt.fin
                rw [h2, ← h1]
                congr 2
                have h4 : (S + (Mt.pd S).length) = 64 * q := by rw [← h3, h1, List.length_append, h2]
                rw [h4]; omega)
              rw [HE.out, ← HM.out] at hcv5
              obtain ⟨R, hR⟩ : ∃ R, Mt.str (Mt.sha s.data.toList) = R := ⟨_, rfl⟩
              rw [hR] at hcv5
              have HRR := Lib.hid hR
              clear hR
              clear ho5 hb5 HE HB6 HH6
              conv => zeta
              go_wp2_with fail
              go_ret
              exact ⟨by rw [HRR.out]; rfl, HB7.out⟩

end Go.Proofs.YtpdionmecflibaaDoor
