/-
  Some texts of one proof, one behind the other.
-/
import Derived.Test.YtngdbhncafnliaaGreatPk19
import Derived.Test.YtngdbhncafnliaaGreatPk26
import Derived.Test.YtngdbhncafnliaaGreatPk27
set_option linter.unusedVariables false
set_option linter.unusedSimpArgs false

/-
  What the document's Print comes to.
-/
namespace Go.Proofs.YtngdbhncafnliaaGreat
open Go.RowKit

def Mt.sz5 (r : List Mt.Av) : Nat := (r.map fun a => min a.2.length 5000).sum
def Mt.tot5 (d : List (List Mt.Av)) : Nat := (d.map Mt.sz5).sum
theorem Mt.sum_ge {α : Type} (f : α → Nat) : ∀ (l : List α) (a : α), a ∈ l → f a ≤ (l.map f).sum
  | [], a, h => by cases h
  | b :: l, a, h => by
    rcases List.mem_cons.1 h with rfl | h
    · simp
    · have := Mt.sum_ge f l a h; simp; omega
theorem Mt.sum_mono {α : Type} (f g : α → Nat) : ∀ l : List α, (∀ a ∈ l, f a ≤ g a) → (l.map f).sum ≤ (l.map g).sum
  | [], _ => by simp
  | a :: l, h => by
    have h1 := h a (by simp)
    have h2 := Mt.sum_mono f g l (fun b hb => h b (List.mem_cons_of_mem _ hb))
    simp; omega
theorem Mt.tot_small {d : List (List Mt.Av)} (h : Mt.tot5 d ≤ 4096) : d.any Mt.longR = false := by
  rw [List.any_eq_false]
  intro r hr
  simp only [Mt.longR, List.any_eq_true, not_exists, not_and, decide_eq_true_eq]
  intro a ha hl
  have h1 := Mt.sum_ge (fun a : Mt.Av => min a.2.length 5000) r a ha
  have h2 := Mt.sum_ge Mt.sz5 d r hr
  unfold Mt.tot5 at h; unfold Mt.sz5 at h2 h
  have h3 : min a.2.length 5000 ≤ (r.map fun a : Mt.Av => min a.2.length 5000).sum := h1
  omega
theorem Mt.tot_le {d : List (List Mt.Av)} (h : d.any Mt.longR = false) : Mt.tot5 d ≤ (Mt.textL Mt.speltL d).length := by
  unfold Mt.textL
  rw [Mt.inter_sum [44] rfl, List.map_map]
  have : Mt.tot5 d ≤ (d.map (List.length ∘ fun r => [43].intercalate (Mt.speltL r))).sum := by
    unfold Mt.tot5
    refine Mt.sum_mono _ _ d fun r hr => ?_
    simp only [Function.comp]
    rw [Mt.inter_sum [43] rfl]
    have h2 : Mt.sz5 r ≤ ((Mt.speltL r).map List.length).sum := by
      unfold Mt.sz5 Mt.speltL
      rw [List.map_map]
      refine Mt.sum_mono _ _ r fun a ha => ?_
      have := Mt.wr_len true a.2
      simp only [Function.comp, Mt.avL, List.length_append, Mt.wrL]
      omega
    omega
  omega
theorem Mt.sum_snoc : ∀ (l : List Nat) (x : Nat), (l ++ [x]).sum = l.sum + x
  | [], x => by simp
  | a :: l, x => by have := Mt.sum_snoc l x; simp only [List.cons_append, List.sum_cons, this]; omega
theorem ret_eq9 {R v : Value} (h : R = v) : Ending.returned v = .returned R := by rw [h]
theorem Mt.tot_take (f : List Mt.Av → Nat) (d : List (List Mt.Av)) (j : Nat) (h : j < d.length) : ((d.take (j + 1)).map f).sum = ((d.take j).map f).sum + f d[j] := by
  rw [List.take_succ_eq_append_getElem h, List.map_append]; exact Mt.sum_snoc _ _
theorem Mt.tot_take2 (f : Mt.Av → Nat) (d : List Mt.Av) (j : Nat) (h : j < d.length) : ((d.take (j + 1)).map f).sum = ((d.take j).map f).sum + f d[j] := by
  rw [List.take_succ_eq_append_getElem h, List.map_append]; exact Mt.sum_snoc _ _
/-- What the document's Print finds at its end. -/
theorem Mt.print_tot {d : List (List Mt.Av)} (h0 : Mt.askF 0 d = 0) : (4096 < Mt.tot5 d → Mt.printD d = .error 5) ∧ (Mt.tot5 d ≤ 4096 → Mt.GoodD d ∧ (4096 < (Mt.textL Mt.speltL d).length → Mt.printD d = .error 5) ∧ ((Mt.textL Mt.speltL d).length ≤ 4096 → Mt.printD d = .ok (Mt.textL Mt.speltL d))) := by
  cases hl : d.any Mt.longR with
  | true =>
    have ha : Mt.askD d = 5 := by unfold Mt.askD; rw [h0, hl]; rfl
    refine ⟨fun _ => by unfold Mt.printD; rw [ha]; rfl, fun h => ?_⟩
    rw [Mt.tot_small h] at hl; cases hl
  | false =>
    have ha : Mt.askD d = 0 := by unfold Mt.askD; rw [h0, hl]; rfl
    have hle := Mt.tot_le hl
    refine ⟨fun h => ?_, fun _ => ⟨Mt.ask_good ha, fun h => ?_, fun h => ?_⟩⟩
    · unfold Mt.printD; rw [ha, if_neg (by simp), if_pos (by omega)]
    · unfold Mt.printD; rw [ha, if_neg (by simp), if_pos h]
    · unfold Mt.printD; rw [ha, if_neg (by simp), if_neg (by omega)]

set_option maxRecDepth 100000 in
set_option maxHeartbeats 8000000 in
theorem rprint_any {w : World} {v : Value} {d : List (List Mt.Av)} (hv : IsDn w v d) (hs : ∀ r ∈ d, ∀ a ∈ r, a.1.length ≤ 140737488351232) :
    Calls Tryz.prog 26 #[v] w fun e w' => e = .returned (textV (Mt.printD d)) ∧ Below w.heap.size w w' := by
  have HV := Lib.hid hv
  obtain ⟨a, cap, rfl, hn, _⟩ := hv
  have HX := Lib.hid (HV.out.row)
  have HSS := Lib.hid hs
  obtain ⟨R, hR⟩ : ∃ R, textV (Mt.printD d) = R := ⟨_, rfl⟩
  have HERR : Hid (∀ e, e ≠ 0 → Mt.askF 0 d = e → R = .tuple #[.string ByteArray.empty, .int .i64 e]) := Lib.hid (fun e h0 h => by
    rw [← hR]
    have ha : Mt.askD d = e := by unfold Mt.askD; rw [h, if_pos h0]
    unfold Mt.printD; rw [ha, if_pos h0]; rfl)
  have HTOT := Lib.hid (fun h0 => @Mt.print_tot d h0)
  have HR := Lib.hid hR
  rw [hR]
  clear hs hR
  go_enter Tryz.func26, Tryz.ntmps26
  go_wp2_with fail
  go_loopw [4, 11] (fun v i wr => ∃ (j N : Nat), i = .int .i64 j ∧ v = .int .i64 N ∧ j ≤ d.length ∧ Hid (j ≤ 32) ∧ N ≤ 40000 * j ∧ Hid (N = ((d.take j).map Mt.sz5).sum) ∧ Hid (Mt.askF 0 d = Mt.askF j (d.drop j)) ∧ Hid (Below w.heap.size w wr))
    (fun _ i _ => d.length - (intOf i).toNat)
  case atStart => exact ⟨0, 0, rfl, rfl, Nat.zero_le _, Lib.hid (by omega), by omega, Lib.hid (by simp), Lib.hid rfl, Lib.hid (Below.refl _ _)⟩
  case round =>
    obtain ⟨j, N, rfl, rfl, hj, HJ32, hN, HN, HA, HB⟩ := hrel
    by_cases hlt : j < d.length
    · obtain ⟨b, off, rfl, x, hx, hload⟩ := HX.out j hlt
      have hl0 := hload wr HB.out
      obtain ⟨r, hr⟩ : ∃ r, d[j] = r := ⟨_, rfl⟩
      have HST := Lib.hid (HSS.out d[j] (List.getElem_mem hlt))
      have HDR := Lib.hid (List.drop_eq_getElem_cons hlt)
      have HTT := Lib.hid (Mt.tot_take Mt.sz5 d j hlt)
      rw [hr] at hx HST HDR HTT
      have HXR := Lib.hid hx
      obtain ⟨xa, xc, rfl, hrn, hrc, _⟩ := hx
      have HY := Lib.hid (HXR.out.row)
      obtain ⟨z, hz⟩ : ∃ z, ((j : Int) == 32) = z := ⟨_, rfl⟩
      have HZ : Hid (j = 32 ↔ z = true) := Lib.hid (by rw [← hz]; simp; omega)
      clear hload hr
      cases z
      · have HJ : Hid (j < 32) := Lib.hid (by
          have h1 := HJ32.out
          have h2 : j ≠ 32 := fun h => by have := HZ.out.1 h; cases this
          omega)
        have HAE : Hid (∀ e, e ≠ 0 → Mt.askR r = e → Mt.askF 0 d = e) := Lib.hid (fun e h0 h => by
          rw [HA.out, HDR.out]
          have h2 : j ≠ 32 := by have := HJ.out; omega
          simp [Mt.askF, h2, h, h0])
        have HAO : Hid (Mt.askR r = 0 → Mt.askF 0 d = Mt.askF (j + 1) (d.drop (j + 1))) := Lib.hid (fun h => by
          rw [HA.out, HDR.out]
          have h2 : j ≠ 32 := by have := HJ.out; omega
          simp [Mt.askF, h2, h])
        clear HZ HJ32
        by_cases hr0 : r = []
        · have HF : Hid (R = .tuple #[.string ByteArray.empty, .int .i64 2]) := Lib.hid (HERR.out 2 (by omega) (HAE.out 2 (by omega) (by rw [hr0]; rfl)))
          have hrl : ((r.length : Int) == 0) = true := by rw [hr0]; rfl
          clear hr0
          go_wp2_with fail
          go_ret2
          exact ⟨ret_eq9 HF.out, HB.out⟩
        · have hrl : ((r.length : Int) == 0) = false := by
            have : r.length ≠ 0 := fun h => hr0 (List.eq_nil_of_length_eq_zero h)
            simp; omega
          have HA0 : Hid (Mt.askR r = Mt.askA r 0 (r.drop 0)) := Lib.hid (by unfold Mt.askR; rw [if_neg hr0]; rfl)
          have HJN := Lib.hid (And.intro hN hlt)
          clear hr0
          go_wp2_with fail
          obtain ⟨wo, rfl⟩ : ∃ wo, wo = wr := ⟨_, rfl⟩
          go_loopw [4, 23] (fun v i wi => ∃ (k M : Nat), i = .int .i64 k ∧ v = .int .i64 M ∧ k ≤ r.length ∧ Hid (k ≤ 8) ∧ M ≤ 40000 * j + 5000 * k ∧ Hid (M = N + ((r.take k).map fun a => min a.2.length 5000).sum) ∧ Hid (Mt.askR r = Mt.askA r k (r.drop k)) ∧ Hid (∀ a ∈ r.take k, a.1.length ≤ 32) ∧ Hid (Below w.heap.size w wi))
            (fun _ i _ => r.length - (intOf i).toNat)
          case atStart => exact ⟨0, N, rfl, rfl, Nat.zero_le _, Lib.hid (by omega), by omega, Lib.hid (by simp), HA0, Lib.hid (by simp), HB⟩
          case round =>
            obtain ⟨k, M, rfl, rfl, hk, HK8, hM, HM, HAA, HT, HBI⟩ := hrel
            by_cases hklt : k < r.length
            · obtain ⟨b2, off2, rfl, hload2⟩ := HY.out k hklt
              obtain ⟨hm0, hm1⟩ := hload2 wr HBI.out
              obtain ⟨av, hav⟩ : ∃ av, r[k] = av := ⟨_, rfl⟩
              have HSA := Lib.hid (HST.out r[k] (List.getElem_mem hklt))
              have HDA := Lib.hid (Mt.drop_av r k hklt)
              have HTS := Lib.hid (Mt.tot_take2 (fun a => min a.2.length 5000) r k hklt)
              have HTK : Hid (av.1.length ≤ 32 → ∀ a ∈ r.take (k + 1), a.1.length ≤ 32) := Lib.hid (fun h a ha => by
                rw [List.take_succ_eq_append_getElem hklt, List.mem_append, List.mem_singleton, hav] at ha
                rcases ha with ha | rfl
                · exact HT.out a ha
                · exact h)
              rw [hav] at hm0 hm1 HSA HDA HTS
              have hb0 := (Below.refl wr.heap.size wr).alloc (Nat.le_refl _) (.cells #[.string (Mt.str av.1), .string (Mt.str av.2)] 87)
              have HBx := Lib.hid (HBI.out.trans (hb0.mono HBI.out.size))
              obtain ⟨p1, p2⟩ := box2_of (heap_alloc_new wr (.cells #[.string (Mt.str av.1), .string (Mt.str av.2)] 87))
              have HP := Lib.hid (And.intro p1 p2)
              have HTY := Lib.hid (rtype_any (Mt.str av.1) (wr.alloc (.cells #[.string (Mt.str av.1), .string (Mt.str av.2)] 87)) (by rw [Mt.str_size]; exact HSA.out))
              rw [Mt.str_data] at HTY
              obtain ⟨y, hy⟩ : ∃ y, ((k : Int) == 8) = y := ⟨_, rfl⟩
              have HY8 : Hid (k = 8 ↔ y = true) := Lib.hid (by rw [← hy]; simp; omega)
              clear hload2 hav hb0
              cases y
              · have hk8 : k ≠ 8 := fun h => by have := HY8.out.1 h; cases this
                cases hty : Mt.typL av.1 with
                | false =>
                  rw [hty] at HTY
                  have HF : Hid (R = .tuple #[.string ByteArray.empty, .int .i64 20]) := Lib.hid (HERR.out 20 (by omega) (HAE.out 20 (by omega) (by rw [HAA.out, HDA.out]; simp [Mt.askA, hk8, hty])))
                  clear hty hk8
                  go_wp2_with fail
                  refine (HTY.out).mono ?_
                  rintro x w2 ⟨rfl, hb⟩
                  have HB2 := Lib.hid (HBx.out.trans (hb.mono HBx.out.size))
                  clear hb
                  go_wp2_with fail
                  go_ret2
                  exact ⟨ret_eq9 HF.out, HB2.out⟩
                | true =>
                  rw [hty] at HTY
                  have HTL := Lib.hid (Mt.typ_len hty)
                  have HV2 : Hid (∀ u, Below w.heap.size w u → IsAvs u (.slice (some ⟨b2, off2, none⟩) k xc) (r.take k)) := Lib.hid (fun u hu => by
                    obtain ⟨a1, cap1, h1, h2⟩ := (HXR.out.below hu).take k hk
                    cases h1; exact h2)
                  have HH := Lib.hid (fun (u : World) (hu : Below w.heap.size w u) => rhas_any (HV2.out u hu) (Mt.str av.1) (by have := HTL.out; rw [Mt.str_size]; omega) (fun a ha => by have := HT.out a ha; omega))
                  rw [Mt.str_data] at HH
                  have hkc : (k : Int) ≤ (xc : Int) := by omega
                  have hkc2 : k ≤ xc := by omega
                  cases hhas : Mt.hasL (r.take k) av.1 with
                  | true =>
                    rw [hhas] at HH
                    have HF : Hid (R = .tuple #[.string ByteArray.empty, .int .i64 21]) := Lib.hid (HERR.out 21 (by omega) (HAE.out 21 (by omega) (by rw [HAA.out, HDA.out]; simp [Mt.askA, hk8, hty, hhas])))
                    clear hty hk8 hhas
                    go_wp2_with fail
                    refine (HTY.out).mono ?_
                    rintro x w2 ⟨rfl, hb⟩
                    have HB2 := Lib.hid (HBx.out.trans (hb.mono HBx.out.size))
                    have q1 := (hb.cell (p := ⟨wr.heap.size, 0, none⟩) (by simp)).trans HP.out.1
                    have q1' := (World.cell?_drew w2 ⟨wr.heap.size, 0, none⟩).trans q1
                    clear hb
                    go_upto_region 16 with fail
                    go_region_law (first | (go_simp; go_at_call 43; go_must ((refine (HH.out _ HB2.out.drew).mono ?_); (rintro e w3 ⟨rfl, hb⟩); (have HB3 := Lib.hid (HB2.out.drew.trans (hb.mono HB2.out.size))); (clear hb))))
                    all_goals
                      go_wp2_with fail
                      go_ret2
                      exact ⟨ret_eq9 HF.out, HB3.out⟩
                  | false =>
                    rw [hhas] at HH
                    have HAA2 : Hid (Mt.askR r = Mt.askA r (k + 1) (r.drop (k + 1))) := Lib.hid (by rw [HAA.out, HDA.out]; simp [Mt.askA, hk8, hty, hhas])
                    obtain ⟨m, hm⟩ : ∃ m, min av.2.length 5000 = m := ⟨_, rfl⟩
                    have hmin : (if (5000 : Int) < ((Mt.str av.2).size : Int) then (5000 : Int) else ((Mt.str av.2).size : Int)) = (m : Int) := by rw [Mt.str_size]; split <;> omega
                    have HMM : Hid (M + m = N + ((r.take (k + 1)).map fun a => min a.2.length 5000).sum) := Lib.hid (by rw [HTS.out, HM.out, hm]; omega)
                    have HMB : Hid (m ≤ 5000 ∧ k + 1 ≤ 8) := Lib.hid ⟨by omega, by have := HK8.out; omega⟩
                    have hMb : M ≤ 2000000 := by have := HJN.out; have h1 := HJ.out; have h2 := HK8.out; omega
                    have hmb : m ≤ 5000 := by omega
                    have HM2 := Lib.hid hM
                    clear hty hk8 hhas hm hM
                    go_wp2_with fail
                    refine (HTY.out).mono ?_
                    rintro x w2 ⟨rfl, hb⟩
                    have HB2 := Lib.hid (HBx.out.trans (hb.mono HBx.out.size))
                    have q1 := (hb.cell (p := ⟨wr.heap.size, 0, none⟩) (by simp)).trans HP.out.1
                    have HQ2 := Lib.hid ((hb.cell (p := ⟨wr.heap.size, 1, none⟩) (by simp)).trans HP.out.2)
                    have HQS : Hid (wr.heap.size < w2.heap.size) := Lib.hid (Nat.lt_of_lt_of_le (by simp) hb.size)
                    have q1' := (World.cell?_drew w2 ⟨wr.heap.size, 0, none⟩).trans q1
                    clear hb
                    go_upto_region 16 with fail
                    go_region_law (first | (go_simp; go_at_call 43; go_must ((refine (HH.out _ HB2.out.drew).mono ?_); (rintro e w3 ⟨rfl, hb⟩); (have HB3 := Lib.hid (HB2.out.drew.trans (hb.mono HB2.out.size))); (have q3 := (hb.cell (p := ⟨wr.heap.size, 1, none⟩) HQS.out).trans ((World.cell?_drew _ _).trans HQ2.out)); (clear hb))))
                    all_goals
                      go_wp2_with fail
                      go_roundw
                      case rel => exact ⟨k + 1, M + m, by go_num, by go_num, by omega, Lib.hid HMB.out.2, by have := HM2.out; omega, HMM, HAA2, Lib.hid (HTK.out HTL.out), HB3⟩
                      case measure => simp [intOf]; omega
              · have hk8 : k = 8 := HY8.out.2 rfl
                have HF : Hid (R = .tuple #[.string ByteArray.empty, .int .i64 9]) := Lib.hid (HERR.out 9 (by omega) (HAE.out 9 (by omega) (by rw [HAA.out, HDA.out]; simp [Mt.askA, hk8])))
                clear hk8
                go_wp2_with fail
                go_ret2
                exact ⟨ret_eq9 HF.out, HBx.out⟩
            · have hkr : k = r.length := by omega
              have HAR : Hid (Mt.askF 0 d = Mt.askF (j + 1) (d.drop (j + 1))) := Lib.hid (HAO.out (by rw [HAA.out, List.drop_eq_nil_of_le (by omega)]; simp [Mt.askA]))
              have HMM : Hid (M = ((d.take (j + 1)).map Mt.sz5).sum) := Lib.hid (by
                have h1 := HM.out
                rw [List.take_of_length_le (by omega)] at h1
                rw [HTT.out, h1, HN.out]; rfl)
              have HMB : Hid (M ≤ 40000 * (j + 1)) := Lib.hid (by have := HK8.out; omega)
              clear hkr hM
              go_wp2_with fail
              go_roundw
              case rel => exact ⟨j + 1, M, by go_num, rfl, by omega, Lib.hid (by have := HJ.out; omega), HMB.out, HMM, HAR, HBI⟩
              case measure => simp [intOf]; omega
      · have HF : Hid (R = .tuple #[.string ByteArray.empty, .int .i64 9]) := Lib.hid (HERR.out 9 (by omega) (by
          have h := HZ.out.2 rfl
          rw [HA.out, HDR.out]; simp [Mt.askF, h]))
        go_wp2_with fail
        go_ret2
        exact ⟨ret_eq9 HF.out, HB.out⟩
    · have HA0 : Hid (Mt.askF 0 d = 0) := Lib.hid (by rw [HA.out, List.drop_eq_nil_of_le (by omega)]; simp [Mt.askF])
      have HNT : Hid (N = Mt.tot5 d) := Lib.hid (by rw [HN.out, List.take_of_length_le (by omega)]; rfl)
      have HPT := Lib.hid (HTOT.out HA0.out)
      obtain ⟨y, hy⟩ : ∃ y, decide ((4096 : Int) < (N : Int)) = y := ⟨_, rfl⟩
      have HYY : Hid (4096 < Mt.tot5 d ↔ y = true) := Lib.hid (by rw [← hy, ← HNT.out]; simp only [decide_eq_true_eq]; omega)
      clear hN
      cases y
      · have HGD := Lib.hid (HPT.out.2 (by
          rcases Nat.lt_or_ge 4096 (Mt.tot5 d) with h | h
          · have := HYY.out.1 h; cases this
          · exact h))
        have HTX := Lib.hid (fun (u : World) (hu : Below w.heap.size w u) => rtext_any (HV.out.below hu) HGD.out.1)
        obtain ⟨T, hT⟩ : ∃ T, Mt.str (Mt.textL Mt.speltL d) = T := ⟨_, rfl⟩
        have hTs : T.size = (Mt.textL Mt.speltL d).length := by rw [← hT, Mt.str_size]
        rw [hT] at HTX
        obtain ⟨q, hq⟩ : ∃ q, decide ((4096 : Int) < (T.size : Int)) = q := ⟨_, rfl⟩
        cases q
        · have HF : Hid (R = .tuple #[.string T, .int .i64 0]) := Lib.hid (by
            have h : ¬ (4096 : Int) < (T.size : Int) := of_decide_eq_false hq
            rw [← HR.out, HGD.out.2.2 (by omega), ← hT]; rfl)
          clear hTs hT
          go_wp2_with fail
          refine (HTX.out _ HB.out).mono ?_
          rintro x w2 ⟨rfl, hb⟩
          have HB2 := Lib.hid (HB.out.trans (hb.mono HB.out.size))
          clear hb
          go_wp2_with fail
          refine (HTX.out _ HB2.out).mono ?_
          rintro x w3 ⟨rfl, hb⟩
          have HB3 := Lib.hid (HB2.out.trans (hb.mono HB2.out.size))
          clear hb
          go_wp2_with fail
          go_ret2
          exact ⟨ret_eq9 HF.out, HB3.out⟩
        · have HF : Hid (R = .tuple #[.string ByteArray.empty, .int .i64 5]) := Lib.hid (by
            have h : (4096 : Int) < (T.size : Int) := of_decide_eq_true hq
            rw [← HR.out, HGD.out.2.1 (by omega)]; rfl)
          clear hTs hT
          go_wp2_with fail
          refine (HTX.out _ HB.out).mono ?_
          rintro x w2 ⟨rfl, hb⟩
          have HB2 := Lib.hid (HB.out.trans (hb.mono HB.out.size))
          clear hb
          go_wp2_with fail
          go_ret2
          exact ⟨ret_eq9 HF.out, HB2.out⟩
      · have HF : Hid (R = .tuple #[.string ByteArray.empty, .int .i64 5]) := Lib.hid (by
          rw [← HR.out, HPT.out.1 (HYY.out.2 rfl)]; rfl)
        go_wp2_with fail
        go_ret2
        exact ⟨ret_eq9 HF.out, HB.out⟩
end Go.Proofs.YtngdbhncafnliaaGreat
