/-
  What the call octet.Prep comes to, at every text.
-/
import Derived.Test.YtfogcgegllhmmaaGreatDoorFold
namespace Go.Proofs.YtfogcgegllhmmaaGreatDoor
open Go.RowKit

set_option maxHeartbeats 800000 in
theorem prep_any (s : ByteArray) (w : World) (hs : s.size ≤ 140737488351232) :
    Calls Tryz.prog 19 #[.string s] w fun e w' => e = .returned (.string (Mt.str (Mt.prep s.data.toList))) ∧ Below w.heap.size w w' := by
  obtain ⟨i0, hi, hz0, hz1, hz2⟩ := info_parts Tryz.info5
  go_enter Tryz.func19, Tryz.ntmps19
  go_wp2_with (at_make; refine wpList_make_own _ rfl _ _ 65 rfl w.heap.size 5 i0 (.int .u8 0) 1 Tryz.underlying65 hi hz0 hz1 .i64 .i64 _ s.size rfl rfl (by omega) (by rw [hz2]; omega) (by unfold maxLen; omega) (Nat.le_refl _) ?_; intro w1 hown hgr)
  have hb1 : Hid (Below w.heap.size w w1) := (Below.refl _ _).grown hgr (Nat.le_refl _) (fun k hk => by cases hk)
  clear hgr
  go_loopw [3, 10] (fun v i wr => ∃ k : Nat, k ≤ s.size ∧ i = .int .i64 k ∧ v = .slice (some ⟨w.heap.size, 0, none⟩) (Mt.run (s.data.toList.take k)).length s.size ∧ wr.ownsRow w.heap.size 5 1 (.slice (some ⟨w.heap.size, 0, none⟩) (Mt.run (s.data.toList.take k)).length s.size) (Mt.run (s.data.toList.take k)).length (Mt.cs (Mt.run (s.data.toList.take k))) ∧ Hid (Below w.heap.size w wr))
    (fun _ i _ => s.size - (intOf i).toNat)
  case atStart => exact ⟨0, Nat.zero_le _, rfl, rfl, hown, hb1⟩
  case round =>
    obtain ⟨k, hk, rfl, rfl, hown, HB⟩ := hrel
    by_cases hlt : k < s.size
    · have hrl : (Mt.run (s.data.toList.take k)).length ≤ k := Nat.le_trans (Mt.run_length _) (List.length_take_le _ _)
      have HS := Lib.hid (show Mt.run (s.data.toList.take (k + 1)) = Mt.step (Mt.run (s.data.toList.take k)) s[k] by rw [Mt.take_snoc s k hlt, Mt.run_snoc])
      obtain ⟨o, ho⟩ : ∃ o, Mt.run (s.data.toList.take k) = o := ⟨_, rfl⟩
      rw [ho] at HS hown hrl ⊢
      clear ho
      obtain ⟨c, hc⟩ : ∃ c, s[k] = c := ⟨_, rfl⟩
      have HC := Lib.hid hc
      by_cases hskip : c = 32 ∧ Mt.endB o = true
      · have hc32 : ((c.toNat : Int) == 32) = true := by have := (Mt.eq32 c).1 hskip.1; rw [this]; rfl
        have he := hskip.2
        have HK := Lib.hid hskip
        clear hskip
        go_wp2_with (go_at_call 43; refine (ends_row o w.heap.size w.heap.size s.size _ (by omega) hown).mono ?_; rintro e w' ⟨rfl, rfl⟩)
        go_roundw
        case rel =>
          have e : Mt.run (s.data.toList.take (k + 1)) = o := by rw [HS.out, Mt.step, HC.out, if_pos HK.out]
          exact ⟨k + 1, by omega, by go_num, by rw [e], by rw [e]; exact hown, HB⟩
        case measure => simp [intOf]; omega
      · have HE := Lib.hid (show Mt.run (s.data.toList.take (k + 1)) = o ++ [Mt.sm c] by rw [HS.out, Mt.step, HC.out, if_neg hskip])
        by_cases h32 : c = 32
        · have hc32 : ((c.toNat : Int) == 32) = true := by have := (Mt.eq32 c).1 h32; rw [this]; rfl
          have he : Mt.endB o = false := by
            cases h : Mt.endB o with
            | false => rfl
            | true => exact absurd ⟨h32, h⟩ hskip
          clear hskip h32
          go_wp2_with (first | (go_at_call 43; refine (ends_row o w.heap.size w.heap.size s.size _ (by omega) hown).mono ?_; rintro e w' ⟨rfl, rfl⟩) | (go_at_call 44; refine (small_any _ _).mono ?_; rintro e w' ⟨rfl, rfl⟩) | (at_builtin; refine wpList_append_fits _ rfl _ _ 65 rfl w.heap.size 5 i0 1 Tryz.underlying65 hi hz1 w.heap.size o.length s.size _ rfl (hown.alloc _) ⟨wr.heap.size, 0, none⟩ 1 1 [.int .u8 (Mt.sm c).toNat] rfl rfl (cell_one_new _ _ _) (by simp [Value.oneCell']) (by omega) ?_; intro w2 hown2 hgr2))
          go_roundw
          case rel =>
            refine ⟨k + 1, by omega, by go_num, by rw [HE.out]; simp, ?_, (HB.out.alloc HB.out.size _).grown hgr2 (by have := HB.out.size; simp; omega) (fun j hj => by cases hj; exact Nat.le_refl _)⟩
            rw [HE.out, Mt.cs_append, List.length_append]
            exact hown2
          case measure => simp [intOf]; omega
        · have hc32 : ((c.toNat : Int) == 32) = false := by have := mt (Mt.eq32 c).2 h32; simp; omega
          clear hskip h32
          go_wp2_with (first | (go_at_call 44; refine (small_any _ _).mono ?_; rintro e w' ⟨rfl, rfl⟩) | (at_builtin; refine wpList_append_fits _ rfl _ _ 65 rfl w.heap.size 5 i0 1 Tryz.underlying65 hi hz1 w.heap.size o.length s.size _ rfl (hown.alloc _) ⟨wr.heap.size, 0, none⟩ 1 1 [.int .u8 (Mt.sm c).toNat] rfl rfl (cell_one_new _ _ _) (by simp [Value.oneCell']) (by omega) ?_; intro w2 hown2 hgr2))
          go_roundw
          case rel =>
            refine ⟨k + 1, by omega, by go_num, by rw [HE.out]; simp, ?_, (HB.out.alloc HB.out.size _).grown hgr2 (by have := HB.out.size; simp; omega) (fun j hj => by cases hj; exact Nat.le_refl _)⟩
            rw [HE.out, Mt.cs_append, List.length_append]
            exact hown2
          case measure => simp [intOf]; omega
    · obtain rfl : k = s.size := by omega
      have ht : s.data.toList.take s.size = s.data.toList := List.take_of_length_le (Nat.le_refl _)
      rw [ht] at hown ⊢
      clear ht
      have hrl : (Mt.run s.data.toList).length ≤ s.size := Mt.run_length _
      have HP := Lib.hid (show Mt.prep s.data.toList = if (Mt.run s.data.toList).getLast? = some 32 then (Mt.run s.data.toList).dropLast else Mt.run s.data.toList from rfl)
      obtain ⟨o, ho⟩ : ∃ o, Mt.run s.data.toList = o := ⟨_, rfl⟩
      rw [ho] at HP hown hrl ⊢
      clear ho
      rcases List.eq_nil_or_concat o with rfl | ⟨l, c, rfl⟩
      · have hcv := conv_row [] w.heap.size w.heap.size 0 s.size wr rfl hown
        go_wp2
        go_ret
        exact ⟨Mt.ret_str (by rw [HP.out]; rfl), HB.out⟩
      · rw [List.concat_eq_append] at HP hown hrl ⊢
        have hcv := conv_row (l ++ [c]) w.heap.size w.heap.size (l ++ [c]).length s.size wr rfl hown
        have hcv2 := conv_take (l ++ [c]) w.heap.size w.heap.size (l ++ [c]).length s.size wr rfl hown l.length (by simp)
        rw [List.take_left] at hcv2
        have HO := Lib.hid hown
        have HO2 := Lib.hid (show ((l ++ [c]).length : Nat) = l.length + 1 by simp)
        rw [HO2.out] at hcv hown hrl ⊢
        have he := fun wx h => ends_row (l ++ [c]) w.heap.size w.heap.size s.size wx (by rw [HO2.out]; omega) h
        rw [HO2.out] at he
        have HEN := Lib.hid he
        clear he
        have hl0 : (0 : Int) < (l.length : Int) + 1 := by omega
        cases hE : Mt.endB (l ++ [c]) with
        | true =>
          have HPP : Hid (Mt.prep s.data.toList = l) := by
            have h32 : c = 32 := by simpa [Mt.endB] using hE
            subst h32
            exact HP.out.trans (by simp)
          go_wp2_with (go_at_call 43; refine (HEN.out _ hown).mono ?_; rintro e w' ⟨rfl, rfl⟩)
          go_ret
          exact ⟨Mt.ret_str (by rw [HPP.out]), HB.out⟩
        | false =>
          have HPP : Hid (Mt.prep s.data.toList = l ++ [c]) := by
            have h32 : c ≠ 32 := by simpa [Mt.endB] using hE
            exact HP.out.trans (by simp [h32])
          go_wp2_with (go_at_call 43; refine (HEN.out _ hown).mono ?_; rintro e w' ⟨rfl, rfl⟩)
          go_ret
          exact ⟨Mt.ret_str (by rw [HPP.out]), HB.out⟩

end Go.Proofs.YtfogcgegllhmmaaGreatDoor
