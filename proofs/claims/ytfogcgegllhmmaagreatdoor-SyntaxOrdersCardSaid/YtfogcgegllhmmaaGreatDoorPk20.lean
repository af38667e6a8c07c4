/-
  Some texts of one proof, one behind the other.
-/
import Derived.Test.YtfogcgegllhmmaaGreatDoorPk3
set_option linter.unusedVariables false
set_option linter.unusedSimpArgs false

/-
  What the calls octet.small, endsBlank, Fold and Prep come to, at every text.
-/
namespace Go.Proofs.YtfogcgegllhmmaaGreatDoor
open Go.RowKit

theorem small_any (c : UInt8) (w : World) : Calls Tryz.prog 44 #[.int .u8 c.toNat] w fun e w' => e = .returned (.int .u8 (Mt.sm c).toNat) ∧ w = w' := by
  have hs := Mt.sm_toNat c
  unfold Mt.smN at hs
  have hlt := c.toNat_lt
  generalize (Mt.sm c).toNat = m at hs
  generalize c.toNat = n at hs hlt
  by_cases h : 65 ≤ n ∧ n ≤ 90
  · rw [if_pos h] at hs
    have HS := Lib.hid hs
    clear hs
    have h1 : (65 : Int) ≤ (n : Int) := by omega
    have h2 : (n : Int) ≤ 90 := by omega
    go_enter Tryz.func44, Tryz.ntmps44
    go_wp2
    go_ret
    exact ⟨Mt.ret_int (by rw [HS.out]; omega), rfl⟩
  · rw [if_neg h] at hs
    have HS := Lib.hid hs
    clear hs
    by_cases h1 : 65 ≤ n
    · have h2 : decide ((n : Int) ≤ 90) = false := by simp; omega
      have h1 : (65 : Int) ≤ (n : Int) := by omega
      clear h
      go_enter Tryz.func44, Tryz.ntmps44
      go_wp2
      go_ret
      exact ⟨Mt.ret_int (by rw [HS.out]), rfl⟩
    · have h2 : decide ((65 : Int) ≤ (n : Int)) = false := by simp; omega
      clear h
      go_enter Tryz.func44, Tryz.ntmps44
      go_wp2
      go_ret
      exact ⟨Mt.ret_int (by rw [HS.out]), rfl⟩

theorem ends_nil (cap : Nat) (a : Option Addr) (w : World) : Calls Tryz.prog 43 #[.slice a 0 cap] w fun e w' => e = .returned (.bool true) ∧ w = w' := by
  go_enter Tryz.func43, Tryz.ntmps43
  go_wp2
  go_ret
  exact ⟨rfl, rfl⟩

theorem ends_some (g n cap : Nat) (x : Int) (b : Bool) (w : World) (hn : n < 140737488351233) (hc : w.cell? ⟨g, n, none⟩ = some (.int .u8 x)) (hb : (x == 32) = b) :
    Calls Tryz.prog 43 #[.slice (some ⟨g, 0, none⟩) (n + 1) cap] w fun e w' => e = .returned (.bool b) ∧ w = w' := by
  have h0 : ((n : Int) + 1 == 0) = false := by simp; omega
  go_enter Tryz.func43, Tryz.ntmps43
  go_wp2
  go_ret
  exact ⟨rfl, rfl⟩

/-- Whether a slice of the call's own ends with a blank, or holds nothing. -/
theorem ends_row (o : List UInt8) (B g cap : Nat) (w : World) (hn : o.length ≤ 140737488351232) (hown : w.ownsRow B 5 1 (.slice (some ⟨g, 0, none⟩) o.length cap) o.length (Mt.cs o)) :
    Calls Tryz.prog 43 #[.slice (some ⟨g, 0, none⟩) o.length cap] w fun e w' => e = .returned (.bool (Mt.endB o)) ∧ w = w' := by
  rcases List.eq_nil_or_concat o with rfl | ⟨l, c, rfl⟩
  · exact ends_nil cap _ w
  · rw [List.concat_eq_append] at hown hn ⊢
    have hc : w.cell? ⟨g, l.length, none⟩ = some (.int .u8 c.toNat) := by
      rw [hown.cellAt _ (by simp)]
      simp [Mt.cs]
    have hb : ((c.toNat : Int) == 32) = Mt.endB (l ++ [c]) := by
      rw [Bool.eq_iff_iff]
      simp [Mt.endB, Mt.eq32]
      omega
    simp only [List.length_append, List.length_singleton] at hn ⊢
    exact ends_some g l.length cap c.toNat _ w (by omega) hc hb

set_option maxHeartbeats 400000 in
theorem fold_any (s : ByteArray) (w : World) (hs : s.size ≤ 140737488351232) :
    Calls Tryz.prog 31 #[.string s] w fun e w' => e = .returned (.string (Mt.str (s.data.toList.map Mt.sm))) ∧ Below w.heap.size w w' := by
  obtain ⟨i0, hi, hz0, hz1, hz2⟩ := info_parts Tryz.info5
  go_enter Tryz.func31, Tryz.ntmps31
  go_wp2_with (at_make; refine wpList_make_full _ rfl _ _ 65 rfl w.heap.size 5 i0 (.int .u8 0) 1 Tryz.underlying65 hi hz0 hz1 .i64 .i64 _ _ s.size rfl rfl rfl rfl (by rw [hz2]; omega) (by unfold maxLen; omega) (Nat.le_refl _) ?_; intro w1 hown hgr)
  have hb1 : Hid (Below w.heap.size w w1) := (Below.refl _ _).grown hgr (Nat.le_refl _) (fun k hk => by cases hk)
  have hown1 : w1.ownsRow w.heap.size 5 1 (.slice (some ⟨w.heap.size, 0, none⟩) s.size s.size) s.size (Mt.cs ((s.data.toList.map Mt.sm).take 0 ++ List.replicate (s.size - 0) 0)) := by
    have e : Mt.cs ((s.data.toList.map Mt.sm).take 0 ++ List.replicate (s.size - 0) 0) = List.replicate s.size (Value.int .u8 0) := by simp [Mt.cs]
    rw [e]; simpa [toList_madeCells_one, Value.cells] using hown
  clear hown hgr hi hz0 hz1 hz2
  go_loopw [10] (fun i wr => ∃ k : Nat, k ≤ s.size ∧ i = .int .i64 k ∧ wr.ownsRow w.heap.size 5 1 (.slice (some ⟨w.heap.size, 0, none⟩) s.size s.size) s.size (Mt.cs ((s.data.toList.map Mt.sm).take k ++ List.replicate (s.size - k) 0)) ∧ Hid (Below w.heap.size w wr))
    (fun i _ => s.size - (intOf i).toNat)
  case atStart => exact ⟨0, Nat.zero_le _, rfl, hown1, hb1⟩
  case round =>
    obtain ⟨k, hk, rfl, hown, HB⟩ := hrel
    by_cases hlt : k < s.size
    · obtain ⟨c, hc⟩ : ∃ c, s[k] = c := ⟨_, rfl⟩
      have hcell : wr.cell? ⟨w.heap.size, k, none⟩ = some (.int .u8 0) := by
        rw [hown.cellAt _ (by omega), Mt.fold_cell s k hlt]
      have hfz := hown.frozenAt k
      go_wp2_with (go_at_call 44; refine (small_any _ _).mono ?_; rintro e w' ⟨rfl, rfl⟩)
      go_roundw
      case rel =>
        refine ⟨k + 1, by omega, by go_num, ?_, Below.setCell HB.out (Nat.le_refl _) _⟩
        have := (hown.stored k (.int .u8 (Mt.sm c).toNat)).1
        rw [← hc] at this ⊢
        rwa [Mt.fold_set s k hlt] at this
      case measure => simp [intOf]; omega
    · obtain rfl : k = s.size := by omega
      have e : (s.data.toList.map Mt.sm).take s.size ++ List.replicate (s.size - s.size) 0 = s.data.toList.map Mt.sm := by
        rw [Nat.sub_self, List.replicate_zero, List.append_nil, List.take_of_length_le (by simp)]
      rw [e] at hown
      clear e
      have hcv := conv_row (s.data.toList.map Mt.sm) w.heap.size w.heap.size s.size s.size wr (by simp) hown
      go_wp2
      go_ret
      exact ⟨rfl, HB.out⟩

end Go.Proofs.YtfogcgegllhmmaaGreatDoor

/-
  What the call octet.Prep comes to, at every text.
-/
namespace Go.Proofs.YtfogcgegllhmmaaGreatDoor
open Go.RowKit

set_option maxHeartbeats 800000 in
theorem prep_any (s : ByteArray) (w : World) (hs : s.size ≤ 140737488351232) :
    Calls Tryz.prog 19 #[.string s] w fun e w' => e = .returned (.string (Mt.str (Mt.prep s.data.toList))) ∧ Below w.heap.size w w' := by
  obtain ⟨i0, hi, hz0, hz1, hz2⟩ := info_parts Tryz.info5
  go_enter Tryz.func19, Tryz.ntmps19
  go_wp2_with (at_make; refine wpList_make_own _ rfl _ _ 65 rfl w.heap.size 5 i0 (.int .u8 0) 1 Tryz.underlying65 hi hz0 hz1 .i64 .i64 _ s.size rfl rfl (by omega) (by rw [hz2]; omega) (by unfold maxLen; omega) (Nat.le_refl _) ?_; intro w1 hown hgr)
  have hb1 : Hid (Below w.heap.size w w1) := (Below.refl _ _).grown hgr (Nat.le_refl _) (fun k hk => by cases hk)
  clear hgr
  go_loopw [3, 10] (fun v i wr => ∃ k : Nat, k ≤ s.size ∧ i = .int .i64 k ∧ v = .slice (some ⟨w.heap.size, 0, none⟩) (Mt.run (s.data.toList.take k)).length s.size ∧ wr.ownsRow w.heap.size 5 1 (.slice (some ⟨w.heap.size, 0, none⟩) (Mt.run (s.data.toList.take k)).length s.size) (Mt.run (s.data.toList.take k)).length (Mt.cs (Mt.run (s.data.toList.take k))) ∧ Hid (Below w.heap.size w wr))
    (fun _ i _ => s.size - (intOf i).toNat)
  case atStart => exact ⟨0, Nat.zero_le _, rfl, rfl, hown, hb1⟩
  case round =>
    obtain ⟨k, hk, rfl, rfl, hown, HB⟩ := hrel
    by_cases hlt : k < s.size
    · have hrl : (Mt.run (s.data.toList.take k)).length ≤ k := Nat.le_trans (Mt.run_length _) (List.length_take_le _ _)
      have HS := Lib.hid (show Mt.run (s.data.toList.take (k + 1)) = Mt.step (Mt.run (s.data.toList.take k)) s[k] by rw [Mt.take_snoc s k hlt, Mt.run_snoc])
      obtain ⟨o, ho⟩ : ∃ o, Mt.run (s.data.toList.take k) = o := ⟨_, rfl⟩
      rw [ho] at HS hown hrl ⊢
      clear ho
      obtain ⟨c, hc⟩ : ∃ c, s[k] = c := ⟨_, rfl⟩
      have HC := Lib.hid hc
      by_cases hskip : c = 32 ∧ Mt.endB o = true
      · have hc32 : ((c.toNat : Int) == 32) = true := by have := (Mt.eq32 c).1 hskip.1; rw [this]; rfl
        have he := hskip.2
        have HK := Lib.hid hskip
        clear hskip
        go_wp2_with (go_at_call 43; refine (ends_row o w.heap.size w.heap.size s.size _ (by omega) hown).mono ?_; rintro e w' ⟨rfl, rfl⟩)
        go_roundw
        case rel =>
          have e : Mt.run (s.data.toList.take (k + 1)) = o := by rw [HS.out, Mt.step, HC.out, if_pos HK.out]
          exact ⟨k + 1, by omega, by go_num, by rw [e], by rw [e]; exact hown, HB⟩
        case measure => simp [intOf]; omega
      · have HE := Lib.hid (show Mt.run (s.data.toList.take (k + 1)) = o ++ [Mt.sm c] by rw [HS.out, Mt.step, HC.out, if_neg hskip])
        by_cases h32 : c = 32
        · have hc32 : ((c.toNat : Int) == 32) = true := by have := (Mt.eq32 c).1 h32; rw [this]; rfl
          have he : Mt.endB o = false := by
            cases h : Mt.endB o with
            | false => rfl
            | true => exact absurd ⟨h32, h⟩ hskip
          clear hskip h32
          go_wp2_with (first | (go_at_call 43; refine (ends_row o w.heap.size w.heap.size s.size _ (by omega) hown).mono ?_; rintro e w' ⟨rfl, rfl⟩) | (go_at_call 44; refine (small_any _ _).mono ?_; rintro e w' ⟨rfl, rfl⟩) | (at_builtin; refine wpList_append_fits _ rfl _ _ 65 rfl w.heap.size 5 i0 1 Tryz.underlying65 hi hz1 w.heap.size o.length s.size _ rfl (hown.alloc _) ⟨wr.heap.size, 0, none⟩ 1 1 [.int .u8 (Mt.sm c).toNat] rfl rfl (cell_one_new _ _ _) (by simp [Value.oneCell']) (by omega) ?_; intro w2 hown2 hgr2))
          go_roundw
          case rel =>
            refine ⟨k + 1, by omega, by go_num, by rw [HE.out]; simp, ?_, (HB.out.alloc HB.out.size _).grown hgr2 (by have := HB.out.size; simp; omega) (fun j hj => by cases hj; exact Nat.le_refl _)⟩
            rw [HE.out, Mt.cs_append, List.length_append]
            exact hown2
          case measure => simp [intOf]; omega
        · have hc32 : ((c.toNat : Int) == 32) = false := by have := mt (Mt.eq32 c).2 h32; simp; omega
          clear hskip h32
          go_wp2_with (first | (go_at_call 44; refine (small_any _ _).mono ?_; rintro e w' ⟨rfl, rfl⟩) | (at_builtin; refine wpList_append_fits _ rfl _ _ 65 rfl w.heap.size 5 i0 1 Tryz.underlying65 hi hz1 w.heap.size o.length s.size _ rfl (hown.alloc _) ⟨wr.heap.size, 0, none⟩ 1 1 [.int .u8 (Mt.sm c).toNat] rfl rfl (cell_one_new _ _ _) (by simp [Value.oneCell']) (by omega) ?_; intro w2 hown2 hgr2))
          go_roundw
          case rel =>
            refine ⟨k + 1, by omega, by go_num, by rw [HE.out]; simp, ?_, (HB.out.alloc HB.out.size _).grown hgr2 (by have := HB.out.size; simp; omega) (fun j hj => by cases hj; exact Nat.le_refl _)⟩
            rw [HE.out, Mt.cs_append, List.length_append]
            exact hown2
          case measure => simp [intOf]; omega
    · obtain rfl : k = s.size := by omega
      have ht : s.data.toList.take s.size = s.data.toList := List.take_of_length_le (Nat.le_refl _)
      rw [ht] at hown ⊢
      clear ht
      have hrl : (Mt.run s.data.toList).length ≤ s.size := Mt.run_length _
      have HP := Lib.hid (show Mt.prep s.data.toList = if (Mt.run s.data.toList).getLast? = some 32 then (Mt.run s.data.toList).dropLast else Mt.run s.data.toList from rfl)
      obtain ⟨o, ho⟩ : ∃ o, Mt.run s.data.toList = o := ⟨_, rfl⟩
      rw [ho] at HP hown hrl ⊢
      clear ho
      rcases List.eq_nil_or_concat o with rfl | ⟨l, c, rfl⟩
      · have hcv := conv_row [] w.heap.size w.heap.size 0 s.size wr rfl hown
        go_wp2
        go_ret
        exact ⟨Mt.ret_str (by rw [HP.out]; rfl), HB.out⟩
      · rw [List.concat_eq_append] at HP hown hrl ⊢
        have hcv := conv_row (l ++ [c]) w.heap.size w.heap.size (l ++ [c]).length s.size wr rfl hown
        have hcv2 := conv_take (l ++ [c]) w.heap.size w.heap.size (l ++ [c]).length s.size wr rfl hown l.length (by simp)
        rw [List.take_left] at hcv2
        have HO := Lib.hid hown
        have HO2 := Lib.hid (show ((l ++ [c]).length : Nat) = l.length + 1 by simp)
        rw [HO2.out] at hcv hown hrl ⊢
        have he := fun wx h => ends_row (l ++ [c]) w.heap.size w.heap.size s.size wx (by rw [HO2.out]; omega) h
        rw [HO2.out] at he
        have HEN := Lib.hid he
        clear he
        have hl0 : (0 : Int) < (l.length : Int) + 1 := by omega
        cases hE : Mt.endB (l ++ [c]) with
        | true =>
          have HPP : Hid (Mt.prep s.data.toList = l) := by
            have h32 : c = 32 := by simpa [Mt.endB] using hE
            subst h32
            exact HP.out.trans (by simp)
          go_wp2_with (go_at_call 43; refine (HEN.out _ hown).mono ?_; rintro e w' ⟨rfl, rfl⟩)
          go_ret
          exact ⟨Mt.ret_str (by rw [HPP.out]), HB.out⟩
        | false =>
          have HPP : Hid (Mt.prep s.data.toList = l ++ [c]) := by
            have h32 : c ≠ 32 := by simpa [Mt.endB] using hE
            exact HP.out.trans (by simp [h32])
          go_wp2_with (go_at_call 43; refine (HEN.out _ hown).mono ?_; rintro e w' ⟨rfl, rfl⟩)
          go_ret
          exact ⟨Mt.ret_str (by rw [HPP.out]), HB.out⟩

end Go.Proofs.YtfogcgegllhmmaaGreatDoor
