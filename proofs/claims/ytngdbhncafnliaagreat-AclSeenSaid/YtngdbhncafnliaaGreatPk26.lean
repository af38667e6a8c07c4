/-
  Some texts of one proof, one behind the other.
-/
import Derived.Test.YtngdbhncafnliaaGreatPk2
import Derived.Test.YtngdbhncafnliaaGreatPk18
import Derived.Test.YtngdbhncafnliaaGreatPk21
import Derived.Test.YtngdbhncafnliaaGreatPk25
set_option linter.unusedVariables false
set_option linter.unusedSimpArgs false

/-
  What the document's text comes to.
-/
namespace Go.Proofs.YtngdbhncafnliaaGreat
open Go.RowKit

theorem Mt.inter_snoc (sep : List UInt8) (x : List UInt8) : ∀ ls : List (List UInt8), ls ≠ [] → sep.intercalate (ls ++ [x]) = sep.intercalate ls ++ sep ++ x
  | [], h => absurd rfl h
  | [a], _ => by simp [List.intercalate, List.intersperse]
  | a :: b :: r, _ => by
    have := Mt.inter_snoc sep x (b :: r) (by simp)
    rw [show (a :: b :: r) ++ [x] = a :: b :: (r ++ [x]) from rfl, Mt.inter_cons2, Mt.inter_cons2, show b :: (r ++ [x]) = (b :: r) ++ [x] from rfl, this]
    simp
theorem Mt.inter_take (sep : List UInt8) (ls : List (List UInt8)) (k : Nat) (h : k < ls.length) : sep.intercalate (ls.take (k + 1)) = sep.intercalate (ls.take k) ++ (if k = 0 then [] else sep) ++ ls[k] := by
  rw [List.take_succ_eq_append_getElem h]
  by_cases h0 : k = 0
  · subst h0; simp [List.intercalate]
  · rw [if_neg h0, Mt.inter_snoc sep ls[k] (ls.take k) (by intro e; have := congrArg List.length e; rw [List.length_take, List.length_nil] at this; omega)]
theorem Mt.good_take {d : List (List Mt.Av)} (h : Mt.GoodD d) (j : Nat) : Mt.GoodD (d.take j) := ⟨by rw [List.length_take]; have := h.1; omega, fun r hr => h.2 r (List.mem_of_mem_take hr)⟩
theorem Mt.spelt_take_len {r : List Mt.Av} (h : Mt.GoodR r) (k : Nat) : ([43].intercalate ((Mt.speltL r).take k)).length ≤ 98576 := by
  have h2 : Mt.GoodR (r.take k) := ⟨by rw [List.length_take]; have := h.1; omega, fun a ha => h.2 a (List.mem_of_mem_take ha)⟩
  have := Mt.spelt_len h2
  unfold Mt.speltL at this ⊢
  rw [← List.map_take]; exact this
theorem str_add (a b : List UInt8) : Mt.str a ++ Mt.str b = Mt.str (a ++ b) := by
  apply ByteArray.ext; apply Array.ext'; simp [Mt.str]

set_option maxRecDepth 100000 in
set_option maxHeartbeats 4000000 in
theorem rtext_any {w : World} {v : Value} {d : List (List Mt.Av)} (hv : IsDn w v d) (hg : Mt.GoodD d) :
    Calls Tryz.prog 44 #[v] w fun e w' => e = .returned (.string (Mt.str (Mt.textL Mt.speltL d))) ∧ Below w.heap.size w w' := by
  have HV := Lib.hid hv
  obtain ⟨a, cap, rfl, hn, _⟩ := hv
  have HX := Lib.hid (HV.out.row)
  have HG := Lib.hid hg
  obtain ⟨R, hR⟩ : ∃ R, Mt.str (Mt.textL Mt.speltL d) = R := ⟨_, rfl⟩
  have HR := Lib.hid hR
  rw [hR]
  clear hg HV hR
  go_enter Tryz.func44, Tryz.ntmps44
  go_wp2_with fail
  go_loopw [3, 10] (fun v i wr => ∃ (j : Nat) (S : ByteArray), i = .int .i64 j ∧ v = .string S ∧ j ≤ d.length ∧ Hid (S = Mt.str (Mt.textL Mt.speltL (d.take j))) ∧ Hid (Below w.heap.size w wr))
    (fun _ i _ => d.length - (intOf i).toNat)
  case atStart => exact ⟨0, _, rfl, rfl, Nat.zero_le _, Lib.hid (by simp [Mt.textL, List.intercalate]; rfl), Lib.hid (Below.refl _ _)⟩
  case round =>
    obtain ⟨j, S, rfl, rfl, hj, HS, HB⟩ := hrel
    by_cases hlt : j < d.length
    · obtain ⟨b, off, rfl, x, hx, hload⟩ := HX.out j hlt
      have hl0 := hload wr HB.out
      have hgr := HG.out.2 _ (List.getElem_mem hlt)
      obtain ⟨r, hr⟩ : ∃ r, d[j] = r := ⟨_, rfl⟩
      rw [hr] at hx hgr
      have HJ : Hid (Mt.textL Mt.speltL (d.take (j + 1)) = Mt.textL Mt.speltL (d.take j) ++ (if j = 0 then [] else [44]) ++ [43].intercalate (Mt.speltL r)) := Lib.hid (by
        unfold Mt.textL
        have := Mt.inter_take [44] (d.map fun r => [43].intercalate (Mt.speltL r)) j (by simpa using hlt)
        rw [← List.map_take, ← List.map_take] at this
        rw [this]; simp [hr])
      have HSL : Hid (S.size ≤ 3154464) := Lib.hid (by rw [HS.out, Mt.str_size]; exact Mt.text_len_spelt (Mt.good_take HG.out j))
      have HGR := Lib.hid hgr
      have HXR := Lib.hid hx
      obtain ⟨xa, xc, rfl, hrn, _⟩ := hx
      have HY := Lib.hid (HXR.out.row)
      obtain ⟨z, hz⟩ : ∃ z, decide ((0 : Int) < (j : Int)) = z := ⟨_, rfl⟩
      have hz' : decide (0 < j) = z := by rw [← hz, Bool.eq_iff_iff]; simp
      have g0 : ¬ (9223372036854775807 < S.size + 1) := by have := HSL.out; omega
      obtain ⟨S1, hS1⟩ : ∃ S1, S ++ ⟨#[44]⟩ = S1 := ⟨_, rfl⟩
      have HS1 : Hid (S1 = Mt.str (Mt.textL Mt.speltL (d.take j) ++ [44])) := Lib.hid (by rw [← hS1, HS.out]; exact str_add _ [44])
      have HRL := Lib.hid (HGR.out.1)
      clear hload hr hgr
      cases z
      · have HJ0 : Hid (j = 0) := Lib.hid (by simp at hz'; omega)
        have HB0 : Hid (S = Mt.str (Mt.textL Mt.speltL (d.take j) ++ [43].intercalate ((Mt.speltL r).take 0))) := Lib.hid (by rw [HS.out]; simp [List.intercalate])
        have HBL : Hid ((Mt.textL Mt.speltL (d.take j)).length ≤ 3154465) := Lib.hid (by have := HSL.out; rw [HS.out, Mt.str_size] at this; simp; omega)
        obtain ⟨Bs, hBs⟩ : ∃ Bs, Mt.textL Mt.speltL (d.take j) = Bs := ⟨_, rfl⟩
        rw [hBs] at HB0 HBL
        have HBS := Lib.hid hBs
        clear hBs
        go_wp2_with fail
        obtain ⟨wo, rfl⟩ : ∃ wo, wo = wr := ⟨_, rfl⟩
        go_loopw [3, 21] (fun v i wi => ∃ (k : Nat) (S : ByteArray), i = .int .i64 k ∧ v = .string S ∧ k ≤ r.length ∧ Hid (S = Mt.str (Bs ++ [43].intercalate ((Mt.speltL r).take k))) ∧ Hid (Below w.heap.size w wi))
          (fun _ i _ => r.length - (intOf i).toNat)
        case atStart => exact ⟨0, _, rfl, rfl, Nat.zero_le _, HB0, HB⟩
        case round =>
          obtain ⟨k, T, rfl, rfl, hk, HT, HBI⟩ := hrel
          by_cases hklt : k < r.length
          · obtain ⟨b2, off2, rfl, hload2⟩ := HY.out k hklt
            obtain ⟨hm0, hm1⟩ := hload2 wr HBI.out
            obtain ⟨av, hav⟩ : ∃ av, r[k] = av := ⟨_, rfl⟩
            have hga := HGR.out.2 _ (List.getElem_mem hklt)
            rw [hav] at hm0 hm1 hga
            have HTL : Hid (T.size ≤ 3253041) := Lib.hid (by
              have h1 := Mt.spelt_take_len HGR.out k
              have h2 := HBL.out
              rw [HT.out, Mt.str_size, List.length_append]; omega)
            have HW := Lib.hid (fun u => rwritten_any (Mt.str av.2) u (by rw [Mt.str_size]; omega))
            rw [Mt.str_data] at HW
            have hwl := Mt.wrF_len true av.2
            have HK : Hid (Bs ++ [43].intercalate ((Mt.speltL r).take (k + 1)) = Bs ++ [43].intercalate ((Mt.speltL r).take k) ++ (if k = 0 then [] else [43]) ++ av.1 ++ [61] ++ Mt.wrL av.2) := Lib.hid (by
              rw [Mt.inter_take [43] (Mt.speltL r) k (by simpa [Mt.speltL] using hklt)]
              simp [Mt.speltL, hav, Mt.avL])
            have hb0 := (Below.refl wr.heap.size wr).alloc (Nat.le_refl _) (.cells #[.string (Mt.str av.1), .string (Mt.str av.2)] 87)
            have HBx := Lib.hid (HBI.out.trans (hb0.mono HBI.out.size))
            obtain ⟨p1, p2⟩ := box2_of (heap_alloc_new wr (.cells #[.string (Mt.str av.1), .string (Mt.str av.2)] 87))
            have HP := Lib.hid (fun (u : World) (hu : Below (wr.heap.size + 1) (wr.alloc (.cells #[.string (Mt.str av.1), .string (Mt.str av.2)] 87)).drew u) => And.intro ((hu.cell (p := ⟨wr.heap.size, 0, none⟩) (by simp)).trans ((World.cell?_drew _ _).trans p1)) ((hu.cell (p := ⟨wr.heap.size, 1, none⟩) (by simp)).trans ((World.cell?_drew _ _).trans p2)))
            obtain ⟨y, hy⟩ : ∃ y, decide ((0 : Int) < (k : Int)) = y := ⟨_, rfl⟩
            have hy' : decide (0 < k) = y := by rw [← hy, Bool.eq_iff_iff]; simp
            obtain ⟨T1, hT1⟩ : ∃ T1, (if k = 0 then T else T ++ ⟨#[43]⟩) = T1 := ⟨_, rfl⟩
            have HT1 : Hid (T1 = Mt.str (Bs ++ [43].intercalate ((Mt.speltL r).take k) ++ (if k = 0 then [] else [43]))) := Lib.hid (by
              rw [← hT1, HT.out]
              by_cases h : k = 0
              · rw [if_pos h, if_pos h]; simp
              · rw [if_neg h, if_neg h]; exact str_add _ [43])
            have HT1L : Hid (T1.size ≤ 3253042) := Lib.hid (by
              rw [← hT1]; have := HTL.out
              split
              · omega
              · rw [ByteArray.size_append]; show _ + 1 ≤ _; omega)
            obtain ⟨T2, hT2⟩ : ∃ T2, T1 ++ Mt.str av.1 = T2 := ⟨_, rfl⟩
            obtain ⟨T3, hT3⟩ : ∃ T3, T2 ++ ⟨#[61]⟩ = T3 := ⟨_, rfl⟩
            obtain ⟨T4, hT4⟩ : ∃ T4, T3 ++ Mt.str (Mt.wrL av.2) = T4 := ⟨_, rfl⟩
            have s2 : T2.size = T1.size + av.1.length := by rw [← hT2, ByteArray.size_append, Mt.str_size]
            have s3 : T3.size = T2.size + 1 := by rw [← hT3, ByteArray.size_append]; rfl
            have g1 : ¬ (9223372036854775807 < T.size + 1) := by have := HTL.out; omega
            have g2 : ¬ (9223372036854775807 < T1.size + (Mt.str av.1).size) := by have := HT1L.out; rw [Mt.str_size]; omega
            have g3 : ¬ (9223372036854775807 < T2.size + 1) := by have := HT1L.out; omega
            have g4 : ¬ (9223372036854775807 < T3.size + (Mt.str (Mt.wrL av.2)).size) := by have := HT1L.out; rw [Mt.str_size]; unfold Mt.wrL; omega
            have HF4 : Hid (T4 = Mt.str (Bs ++ [43].intercalate ((Mt.speltL r).take (k + 1)))) := Lib.hid (by
              rw [← hT4, ← hT3, ← hT2, HT1.out, HK.out]
              have e61 : (⟨#[61]⟩ : ByteArray) = Mt.str [61] := rfl
              rw [e61, str_add, str_add, str_add])
            clear hload2 hav hga hb0 hwl s2 s3 HK
            cases y
            all_goals
              have HK0 := Lib.hid hy'
              first
                | (have hk0 : k = 0 := by simp at hy'; omega
                   rw [if_pos hk0] at hT1
                   subst hT1
                   clear hk0)
                | (have hk0 : ¬ k = 0 := by simp at hy'; omega
                   rw [if_neg hk0] at hT1
                   clear hk0)
              go_upto_region 12 with fail
              go_region_law (first | (go_simp; go_at_call 66; go_must ((refine (HW.out _).mono ?_); (rintro e w2 ⟨rfl, hb⟩); (obtain ⟨q1, q2⟩ := HP.out _ (hb.mono (by simp))); (have HB2 := Lib.hid (HBx.out.drew.trans (hb.mono HBx.out.size))); (clear hb))))
              all_goals
                go_wp2_with fail
                go_roundw
                case rel => exact ⟨k + 1, T4, by go_num, rfl, by omega, HF4, HB2⟩
                case measure => simp [intOf]; omega
          · have HF : Hid (T = Mt.str (Mt.textL Mt.speltL (d.take (j + 1)))) := Lib.hid (by
              rw [HT.out, HJ.out, List.take_of_length_le (by simp [Mt.speltL]; omega), ← HBS.out]
              have := HJ0.out
              rw [if_pos this]; simp)
            go_wp2_with fail
            go_roundw
            case rel => exact ⟨j + 1, T, by go_num, rfl, by omega, HF, HBI⟩
            case measure => simp [intOf]; omega
      · have HJ0 : Hid (0 < j) := Lib.hid (by simp at hz'; omega)
        have HB0 : Hid (S1 = Mt.str (Mt.textL Mt.speltL (d.take j) ++ [44] ++ [43].intercalate ((Mt.speltL r).take 0))) := Lib.hid (by rw [HS1.out]; simp [List.intercalate])
        have HBL : Hid ((Mt.textL Mt.speltL (d.take j) ++ [44]).length ≤ 3154465) := Lib.hid (by have := HSL.out; rw [HS.out, Mt.str_size] at this; simp; omega)
        obtain ⟨Bs, hBs⟩ : ∃ Bs, Mt.textL Mt.speltL (d.take j) ++ [44] = Bs := ⟨_, rfl⟩
        rw [hBs] at HB0 HBL
        have HBS := Lib.hid hBs
        clear hBs
        go_wp2_with fail
        obtain ⟨wo, rfl⟩ : ∃ wo, wo = wr := ⟨_, rfl⟩
        go_loopw [3, 21] (fun v i wi => ∃ (k : Nat) (S : ByteArray), i = .int .i64 k ∧ v = .string S ∧ k ≤ r.length ∧ Hid (S = Mt.str (Bs ++ [43].intercalate ((Mt.speltL r).take k))) ∧ Hid (Below w.heap.size w wi))
          (fun _ i _ => r.length - (intOf i).toNat)
        case atStart => exact ⟨0, _, rfl, rfl, Nat.zero_le _, HB0, HB⟩
        case round =>
          obtain ⟨k, T, rfl, rfl, hk, HT, HBI⟩ := hrel
          by_cases hklt : k < r.length
          · obtain ⟨b2, off2, rfl, hload2⟩ := HY.out k hklt
            obtain ⟨hm0, hm1⟩ := hload2 wr HBI.out
            obtain ⟨av, hav⟩ : ∃ av, r[k] = av := ⟨_, rfl⟩
            have hga := HGR.out.2 _ (List.getElem_mem hklt)
            rw [hav] at hm0 hm1 hga
            have HTL : Hid (T.size ≤ 3253041) := Lib.hid (by
              have h1 := Mt.spelt_take_len HGR.out k
              have h2 := HBL.out
              rw [HT.out, Mt.str_size, List.length_append]; omega)
            have HW := Lib.hid (fun u => rwritten_any (Mt.str av.2) u (by rw [Mt.str_size]; omega))
            rw [Mt.str_data] at HW
            have hwl := Mt.wrF_len true av.2
            have HK : Hid (Bs ++ [43].intercalate ((Mt.speltL r).take (k + 1)) = Bs ++ [43].intercalate ((Mt.speltL r).take k) ++ (if k = 0 then [] else [43]) ++ av.1 ++ [61] ++ Mt.wrL av.2) := Lib.hid (by
              rw [Mt.inter_take [43] (Mt.speltL r) k (by simpa [Mt.speltL] using hklt)]
              simp [Mt.speltL, hav, Mt.avL])
            have hb0 := (Below.refl wr.heap.size wr).alloc (Nat.le_refl _) (.cells #[.string (Mt.str av.1), .string (Mt.str av.2)] 87)
            have HBx := Lib.hid (HBI.out.trans (hb0.mono HBI.out.size))
            obtain ⟨p1, p2⟩ := box2_of (heap_alloc_new wr (.cells #[.string (Mt.str av.1), .string (Mt.str av.2)] 87))
            have HP := Lib.hid (fun (u : World) (hu : Below (wr.heap.size + 1) (wr.alloc (.cells #[.string (Mt.str av.1), .string (Mt.str av.2)] 87)).drew u) => And.intro ((hu.cell (p := ⟨wr.heap.size, 0, none⟩) (by simp)).trans ((World.cell?_drew _ _).trans p1)) ((hu.cell (p := ⟨wr.heap.size, 1, none⟩) (by simp)).trans ((World.cell?_drew _ _).trans p2)))
            obtain ⟨y, hy⟩ : ∃ y, decide ((0 : Int) < (k : Int)) = y := ⟨_, rfl⟩
            have hy' : decide (0 < k) = y := by rw [← hy, Bool.eq_iff_iff]; simp
            obtain ⟨T1, hT1⟩ : ∃ T1, (if k = 0 then T else T ++ ⟨#[43]⟩) = T1 := ⟨_, rfl⟩
            have HT1 : Hid (T1 = Mt.str (Bs ++ [43].intercalate ((Mt.speltL r).take k) ++ (if k = 0 then [] else [43]))) := Lib.hid (by
              rw [← hT1, HT.out]
              by_cases h : k = 0
              · rw [if_pos h, if_pos h]; simp
              · rw [if_neg h, if_neg h]; exact str_add _ [43])
            have HT1L : Hid (T1.size ≤ 3253042) := Lib.hid (by
              rw [← hT1]; have := HTL.out
              split
              · omega
              · rw [ByteArray.size_append]; show _ + 1 ≤ _; omega)
            obtain ⟨T2, hT2⟩ : ∃ T2, T1 ++ Mt.str av.1 = T2 := ⟨_, rfl⟩
            obtain ⟨T3, hT3⟩ : ∃ T3, T2 ++ ⟨#[61]⟩ = T3 := ⟨_, rfl⟩
            obtain ⟨T4, hT4⟩ : ∃ T4, T3 ++ Mt.str (Mt.wrL av.2) = T4 := ⟨_, rfl⟩
            have s2 : T2.size = T1.size + av.1.length := by rw [← hT2, ByteArray.size_append, Mt.str_size]
            have s3 : T3.size = T2.size + 1 := by rw [← hT3, ByteArray.size_append]; rfl
            have g1 : ¬ (9223372036854775807 < T.size + 1) := by have := HTL.out; omega
            have g2 : ¬ (9223372036854775807 < T1.size + (Mt.str av.1).size) := by have := HT1L.out; rw [Mt.str_size]; omega
            have g3 : ¬ (9223372036854775807 < T2.size + 1) := by have := HT1L.out; omega
            have g4 : ¬ (9223372036854775807 < T3.size + (Mt.str (Mt.wrL av.2)).size) := by have := HT1L.out; rw [Mt.str_size]; unfold Mt.wrL; omega
            have HF4 : Hid (T4 = Mt.str (Bs ++ [43].intercalate ((Mt.speltL r).take (k + 1)))) := Lib.hid (by
              rw [← hT4, ← hT3, ← hT2, HT1.out, HK.out]
              have e61 : (⟨#[61]⟩ : ByteArray) = Mt.str [61] := rfl
              rw [e61, str_add, str_add, str_add])
            clear hload2 hav hga hb0 hwl s2 s3 HK
            cases y
            all_goals
              have HK0 := Lib.hid hy'
              first
                | (have hk0 : k = 0 := by simp at hy'; omega
                   rw [if_pos hk0] at hT1
                   subst hT1
                   clear hk0)
                | (have hk0 : ¬ k = 0 := by simp at hy'; omega
                   rw [if_neg hk0] at hT1
                   clear hk0)
              go_upto_region 12 with fail
              go_region_law (first | (go_simp; go_at_call 66; go_must ((refine (HW.out _).mono ?_); (rintro e w2 ⟨rfl, hb⟩); (obtain ⟨q1, q2⟩ := HP.out _ (hb.mono (by simp))); (have HB2 := Lib.hid (HBx.out.drew.trans (hb.mono HBx.out.size))); (clear hb))))
              all_goals
                go_wp2_with fail
                go_roundw
                case rel => exact ⟨k + 1, T4, by go_num, rfl, by omega, HF4, HB2⟩
                case measure => simp [intOf]; omega
          · have HF : Hid (T = Mt.str (Mt.textL Mt.speltL (d.take (j + 1)))) := Lib.hid (by
              rw [HT.out, HJ.out, List.take_of_length_le (by simp [Mt.speltL]; omega), ← HBS.out]
              have := HJ0.out
              rw [if_neg (by omega)])
            go_wp2_with fail
            go_roundw
            case rel => exact ⟨j + 1, T, by go_num, rfl, by omega, HF, HBI⟩
            case measure => simp [intOf]; omega
    · have HF : Hid (S = R) := Lib.hid (by rw [HS.out, ← HR.out, List.take_of_length_le (by omega)])
      go_wp2_with fail
      go_ret
      exact ⟨Mt.ret_str HF.out, HB.out⟩
end Go.Proofs.YtngdbhncafnliaaGreat
