/-
  Some texts of one proof, one behind the other.
-/
import Derived.Deep.LoopGhost
import Derived.Test.YtfogcgegllhmmaaGreatDoorPk3
set_option linter.unusedVariables false
set_option linter.unusedSimpArgs false

/-
  What the document's Fold comes to.
-/
namespace Go.Proofs.YtfogcgegllhmmaaGreatDoor
open Go.RowKit

/-- string(b) of whatever slice of the call's own, bytes. -/
theorem conv_ownb (l : List UInt8) (B n : Nat) (v : Value) (w : World) (hown : w.ownsRow B 5 1 v n (Mt.cs l)) :
    (convert 65 9 v).run Tryz.prog w = .ok (.string (Mt.str l)) w := by
  have h := conv_own (l.map fun c => (c.toNat : Int)) B n v w (by simpa [Mt.cs, Function.comp_def] using hown)
  rwa [Mt.str_nums] at h

set_option maxHeartbeats 800000 in
set_option maxRecDepth 100000 in
theorem rfold_any (s : ByteArray) (w : World) (hs : s.size ≤ 140737488351232) :
    Calls Tryz.prog 34 #[.string s] w fun e w' => e = .returned (.string (Mt.str (s.data.toList.map Mt.sm))) ∧ Below w.heap.size w w' := by
  obtain ⟨i0, hi, hz0, hz1, hz2⟩ := info_parts Tryz.info5
  go_enter Tryz.func34, Tryz.ntmps34
  go_wp2
  go_loopw [3, 4] (fun v i wr => ∃ k : Nat, k ≤ s.size ∧ i = .int .i64 k ∧ wr.ownsRow w.heap.size 5 1 v k (Mt.cs ((s.data.toList.take k).map Mt.sm)) ∧ Hid (Below w.heap.size w wr))
    (fun _ i _ => s.size - (intOf i).toNat)
  case atStart => exact ⟨0, Nat.zero_le _, rfl, World.ownsRow_nil _ _ _ _, Below.refl _ _⟩
  case round =>
    obtain ⟨k, hk, rfl, hown, HB⟩ := hrel
    by_cases hlt : k < s.size
    · obtain ⟨c, hc⟩ : ∃ c, s[k] = c := ⟨_, rfl⟩
      have HE := Lib.hid (show Mt.cs ((s.data.toList.take (k + 1)).map Mt.sm) = Mt.cs ((s.data.toList.take k).map Mt.sm) ++ [.int .u8 (Mt.sm c).toNat] by
        rw [Mt.take_snoc s k hlt, hc, List.map_append, Mt.cs_append]; rfl)
      have hsm := Mt.sm_toNat c
      unfold Mt.smN at hsm
      have hsz := HB.out.size
      have hc256 : (c.toNat : Int) < 256 := by have := c.toNat_lt; omega
      have hle : ∀ (x : Int), Hid (x = ((Mt.sm c).toNat : Int)) → Hid (Mt.cs ((s.data.toList.take (k + 1)).map Mt.sm) = Mt.cs ((s.data.toList.take k).map Mt.sm) ++ [.int .u8 x]) := fun x hx => by
        have e : x = ((Mt.sm c).toNat : Int) := hx.out
        subst e; exact HE.out
      by_cases h : 65 ≤ c.toNat ∧ c.toNat ≤ 90
      · rw [if_pos h] at hsm
        have HX := hle ((c.toNat : Int) - 65 + 97) (Lib.hid (by omega))
        have h1 : (65 : Int) ≤ (c.toNat : Int) := by omega
        have h2 : (c.toNat : Int) ≤ 90 := by omega
        clear hsm hle h
        go_wp2_with (at_builtin; refine wpList_append_own _ rfl _ _ 65 rfl w.heap.size 5 i0 (.int .u8 0) 1 1 Tryz.underlying65 hi hz0 hz1 hz2 rfl (by decide) _ _ _ rfl (hown.alloc _) ⟨wr.heap.size, 0, none⟩ 1 1 [.int .u8 ((c.toNat : Int) - 65 + 97)] rfl rfl (cell_one_new _ _ _) (by simp [Value.oneCell']) (by unfold maxLen; omega) (by omega) (by simp; omega) ?_; intro v1 w1 hown1 hgr1 _)
        have HB1 : Hid (Below w.heap.size w w1) := (HB.out.alloc hsz _).grown hgr1 (by simp; omega) (fun j hj => (hown.lt j hj).1)
        go_roundw
        case rel => exact ⟨k + 1, by omega, by go_num, by rw [HX.out]; exact hown1, HB1⟩
        case measure => simp [intOf]; omega
      · rw [if_neg h] at hsm
        have HX := hle (c.toNat : Int) (Lib.hid (by omega))
        by_cases h1 : 65 ≤ c.toNat
        · have h2 : decide ((c.toNat : Int) ≤ 90) = false := by simp; omega
          have h1 : (65 : Int) ≤ (c.toNat : Int) := by omega
          clear hsm hle h
          go_wp2_with (at_builtin; refine wpList_append_own _ rfl _ _ 65 rfl w.heap.size 5 i0 (.int .u8 0) 1 1 Tryz.underlying65 hi hz0 hz1 hz2 rfl (by decide) _ _ _ rfl (hown.alloc _) ⟨wr.heap.size, 0, none⟩ 1 1 [.int .u8 (c.toNat : Int)] rfl rfl (cell_one_new _ _ _) (by simp [Value.oneCell']) (by unfold maxLen; omega) (by omega) (by simp; omega) ?_; intro v1 w1 hown1 hgr1 _)
          have HB1 : Hid (Below w.heap.size w w1) := (HB.out.alloc hsz _).grown hgr1 (by simp; omega) (fun j hj => (hown.lt j hj).1)
          go_roundw
          case rel => exact ⟨k + 1, by omega, by go_num, by rw [HX.out]; exact hown1, HB1⟩
          case measure => simp [intOf]; omega
        · have h2 : decide ((65 : Int) ≤ (c.toNat : Int)) = false := by simp; omega
          clear hsm hle h
          go_wp2_with (at_builtin; refine wpList_append_own _ rfl _ _ 65 rfl w.heap.size 5 i0 (.int .u8 0) 1 1 Tryz.underlying65 hi hz0 hz1 hz2 rfl (by decide) _ _ _ rfl (hown.alloc _) ⟨wr.heap.size, 0, none⟩ 1 1 [.int .u8 (c.toNat : Int)] rfl rfl (cell_one_new _ _ _) (by simp [Value.oneCell']) (by unfold maxLen; omega) (by omega) (by simp; omega) ?_; intro v1 w1 hown1 hgr1 _)
          have HB1 : Hid (Below w.heap.size w w1) := (HB.out.alloc hsz _).grown hgr1 (by simp; omega) (fun j hj => (hown.lt j hj).1)
          go_roundw
          case rel => exact ⟨k + 1, by omega, by go_num, by rw [HX.out]; exact hown1, HB1⟩
          case measure => simp [intOf]; omega
    · obtain rfl : k = s.size := by omega
      have ht : s.data.toList.take s.size = s.data.toList := List.take_of_length_le (Nat.le_refl _)
      rw [ht] at hown
      clear ht
      have hcv := conv_ownb (s.data.toList.map Mt.sm) w.heap.size _ _ wr hown
      go_wp2
      go_ret
      exact ⟨rfl, HB.out⟩

end Go.Proofs.YtfogcgegllhmmaaGreatDoor

/-
  What the document's Prep comes to.
-/
namespace Go.Proofs.YtfogcgegllhmmaaGreatDoor
open Go.RowKit

theorem ownsRow_shape {w : World} {base : Nat} {e : TypeId} {size : Nat} {v : Value} {n : Nat} {xs : List Value} (h : w.ownsRow base e size v n xs) : ∃ a c, v = .slice a n c := by
  rcases h.2 with ⟨rfl, rfl⟩ | ⟨g, cap, _, rfl, _⟩
  · exact ⟨_, _, rfl⟩
  · exact ⟨_, _, rfl⟩

set_option maxHeartbeats 1600000 in
set_option maxRecDepth 100000 in
theorem rprep_any (s : ByteArray) (w : World) (hs : s.size ≤ 70368744177664) :
    Calls Tryz.prog 21 #[.string s] w fun e w' => e = .returned (.string (Mt.str (Mt.rb (s.data.toList.map Mt.sm) s.size))) ∧ Below w.heap.size w w' := by
  obtain ⟨i0, hi, hz0, hz1, hz2⟩ := info_parts Tryz.info5
  obtain ⟨t, ht, hts⟩ : ∃ t : ByteArray, Mt.str (s.data.toList.map Mt.sm) = t ∧ t.size = s.size := ⟨_, rfl, by rw [Mt.str_size]; simp⟩
  have hl : s.data.toList.map Mt.sm = t.data.toList := by rw [← ht, Mt.str_data]
  have hf := fun u => rfold_any s u (by omega)
  rw [ht] at hf
  rw [hl, ← hts]
  have HF := Lib.hid hf
  have hs' : t.size ≤ 70368744177664 := by omega
  clear hf hl ht hts hs
  go_enter Tryz.func21, Tryz.ntmps21
  go_wp2_with fail
  refine (HF.out _).mono ?_
  rintro e w1 ⟨rfl, hb1⟩
  have H1 := Lib.hid hb1
  clear hb1 HF
  go_wp2_with fail
  go_loopw [4, 5] (fun v i wr => ∃ k : Nat, k ≤ t.size ∧ i = .int .i64 k ∧ wr.ownsRow w.heap.size 5 1 v (Mt.rb t.data.toList k).length (Mt.cs (Mt.rb t.data.toList k)) ∧ Hid (Below w.heap.size w wr))
    (fun _ i _ => t.size - (intOf i).toNat)
  case atStart => exact ⟨0, Nat.zero_le _, rfl, World.ownsRow_nil _ _ _ _, H1⟩
  case round =>
    obtain ⟨k, hk, rfl, hown, HB⟩ := hrel
    by_cases hlt : k < t.size
    · obtain ⟨ao, cp, rfl⟩ := ownsRow_shape hown
      have HR := Lib.hid (show Mt.rb t.data.toList (k + 1) = Mt.rstep t.data.toList k (Mt.rb t.data.toList k) from rfl)
      have hrl := Mt.rb_length t.data.toList k
      have HZ := Lib.hid (show k = 0 → Mt.rb t.data.toList k = [] by rintro rfl; rfl)
      obtain ⟨o, ho⟩ : ∃ o, Mt.rb t.data.toList k = o := ⟨_, rfl⟩
      rw [ho] at HR HZ hrl hown ⊢
      clear ho
      obtain ⟨wo, hwo⟩ : ∃ wo : World, wo = wr := ⟨_, rfl⟩
      subst hwo
      have hgd : ∀ m (h : m < t.size), t.data.toList.getD m 0 = t[m] := fun m h => by
        simp [List.getD, List.getElem?_eq_getElem (show m < t.data.toList.length by simpa using h)]; rfl
      have HGD := Lib.hid hgd
      clear hgd
      have hsz := HB.out.size
      obtain ⟨c, hc⟩ : ∃ c, t[k] = c := ⟨_, rfl⟩
      have HC := Lib.hid (show t.data.toList.getD k 0 = c by rw [HGD.out k hlt, hc])
      go_wp2
      go_loop [6, 7] (fun l i => ∃ (j : Nat) (b : Bool), k ≤ j ∧ j ≤ t.size ∧ i = .int .i64 j ∧ l = .bool b ∧ Hid (b = true → Mt.later t.data.toList k = true) ∧ Hid (b = false → ∀ m, k ≤ m → m < j → t.data.toList.getD m 0 = 32)) (fun _ i => t.size - (intOf i).toNat)
      case atStart => exact ⟨k, false, Nat.le_refl _, by omega, rfl, rfl, Lib.hid (fun h => by cases h), Lib.hid (fun _ m h1 h2 => by omega)⟩
      case round =>
        obtain ⟨j, b, hkj, hj, rfl, rfl, HT, HN⟩ := hrel
        cases b with
        | true =>
          by_cases hjt : j < t.size
          all_goals
            have HL := Lib.hid (HT.out rfl)
            clear HT HN
            have hno := HL.out
            by_cases h32 : c = 32
            · have hc32 : ((c.toNat : Int) == 32) = true := by have := (Mt.eq32 c).1 h32; rw [this]; rfl
              by_cases hoe : o = []
              · have HK := Lib.hid (show Mt.rb t.data.toList (k + 1) = o by rw [HR.out, Mt.rstep, if_pos (.inr ⟨HC.out.trans h32, .inl hoe⟩)])
                have hol : ((o.length : Int) == 0) = true := by rw [hoe]; rfl
                clear h32 hoe hno
                go_wp2
                go_roundw
                case rel => exact ⟨k + 1, by omega, by go_num, by rw [HK.out]; exact hown, HB⟩
                case measure => simp [intOf]; omega
              · have hol : ((o.length : Int) == 0) = false := by
                  have := mt List.eq_nil_of_length_eq_zero hoe
                  simp; exact hoe
                have hk1 : 1 ≤ k := by
                  rcases Nat.eq_zero_or_pos k with h | h
                  · exact absurd (HZ.out h) hoe
                  · exact h
                obtain ⟨d, hd⟩ : ∃ d, t[k - 1] = d := ⟨_, rfl⟩
                have HD := Lib.hid (show t.data.toList.getD (k - 1) 0 = d by rw [HGD.out (k - 1) (by omega), hd])
                by_cases hd32 : d = 32
                · have HK := Lib.hid (show Mt.rb t.data.toList (k + 1) = o by rw [HR.out, Mt.rstep, if_pos (.inr ⟨HC.out.trans h32, .inr (HD.out.trans hd32)⟩)])
                  have hdd : ((d.toNat : Int) == 32) = true := by have := (Mt.eq32 d).1 hd32; rw [this]; rfl
                  clear h32 hoe hno hd32
                  go_wp2
                  go_roundw
                  case rel => exact ⟨k + 1, by omega, by go_num, by rw [HK.out]; exact hown, HB⟩
                  case measure => simp [intOf]; omega
                · have HA := Lib.hid (show Mt.rb t.data.toList (k + 1) = o ++ [c] by
                    rw [HR.out, Mt.rstep, if_neg (by rw [hno, HD.out]; simp [hoe, hd32]), HC.out])
                  have hdd : ((d.toNat : Int) == 32) = false := by have := mt (Mt.eq32 d).2 hd32; simp; omega
                  clear h32 hoe hno hd32
                  go_wp2_with (at_builtin; refine wpList_append_own _ rfl _ _ 65 rfl w.heap.size 5 i0 (.int .u8 0) 1 1 Tryz.underlying65 hi hz0 hz1 hz2 rfl (by decide) _ _ _ rfl (hown.alloc _) ⟨wo.heap.size, 0, none⟩ 1 1 [.int .u8 c.toNat] rfl rfl (cell_one_new _ _ _) (by simp [Value.oneCell']) (by unfold maxLen; omega) (by omega) (by simp; omega) ?_; intro v1 w1 hown1 hgr1 _)
                  have HB1 : Hid (Below w.heap.size w w1) := (HB.out.alloc hsz _).grown hgr1 (by simp; omega) (fun j hj => (hown.lt j hj).1)
                  go_roundw
                  case rel =>
                    refine ⟨k + 1, by omega, by go_num, ?_, HB1⟩
                    rw [HA.out, Mt.cs_append, List.length_append]
                    exact hown1
                  case measure => simp [intOf]; omega
            · have hc32 : ((c.toNat : Int) == 32) = false := by have := mt (Mt.eq32 c).2 h32; simp; omega
              have HA := Lib.hid (show Mt.rb t.data.toList (k + 1) = o ++ [c] by
                rw [HR.out, Mt.rstep, if_neg (by rw [hno, HC.out]; simp [h32]), HC.out])
              clear h32 hno
              go_wp2_with (at_builtin; refine wpList_append_own _ rfl _ _ 65 rfl w.heap.size 5 i0 (.int .u8 0) 1 1 Tryz.underlying65 hi hz0 hz1 hz2 rfl (by decide) _ _ _ rfl (hown.alloc _) ⟨wo.heap.size, 0, none⟩ 1 1 [.int .u8 c.toNat] rfl rfl (cell_one_new _ _ _) (by simp [Value.oneCell']) (by unfold maxLen; omega) (by omega) (by simp; omega) ?_; intro v1 w1 hown1 hgr1 _)
              have HB1 : Hid (Below w.heap.size w w1) := (HB.out.alloc hsz _).grown hgr1 (by simp; omega) (fun j hj => (hown.lt j hj).1)
              go_roundw
              case rel =>
                refine ⟨k + 1, by omega, by go_num, ?_, HB1⟩
                rw [HA.out, Mt.cs_append, List.length_append]
                exact hown1
              case measure => simp [intOf]; omega
        | false =>
          by_cases hjt : j < t.size
          · obtain ⟨x, hx⟩ : ∃ x, t[j] = x := ⟨_, rfl⟩
            have HX := Lib.hid (show t.data.toList.getD j 0 = x by rw [HGD.out j hjt, hx])
            by_cases h32 : x = 32
            · have hx32 : ((x.toNat : Int) != 32) = false := by have := (Mt.eq32 x).1 h32; rw [this]; rfl
              have H32 := Lib.hid h32
              clear h32 hc
              go_wp2
              go_round
              case rel => exact ⟨j + 1, false, by omega, by omega, by go_num, rfl, Lib.hid (fun h => by cases h), Lib.hid (fun _ m h1 h2 => by
                rcases Nat.lt_or_ge m j with h | h
                · exact HN.out rfl m h1 h
                · obtain rfl : m = j := by omega
                  exact HX.out.trans H32.out)⟩
              case measure => simp [intOf]; omega
            · have hx32 : ((x.toNat : Int) != 32) = true := by have := mt (Mt.eq32 x).2 h32; simp; omega
              have HL := Lib.hid (Mt.later_true t.data.toList k j hkj (by simpa using hjt) (by rw [HX.out]; exact h32))
              clear h32 hc
              go_wp2
              go_round
              case rel => exact ⟨j + 1, true, by omega, by omega, by go_num, rfl, Lib.hid (fun _ => HL.out), Lib.hid (fun h => by cases h)⟩
              case measure => simp [intOf]; omega
          · have hL : Mt.later t.data.toList k = false := Mt.later_false _ _ (fun m h1 h2 => HN.out rfl m h1 (by have : t.data.toList.length = t.size := rfl; omega))
            have HK := Lib.hid (show Mt.rb t.data.toList (k + 1) = o by rw [HR.out, Mt.rstep, if_pos (.inl hL)])
            clear hL HN HT
            go_wp2
            go_roundw
            case rel => exact ⟨k + 1, by omega, by go_num, by rw [HK.out]; exact hown, HB⟩
            case measure => simp [intOf]; omega
    · obtain rfl : k = t.size := by omega
      have hcv := conv_ownb (Mt.rb t.data.toList t.size) w.heap.size _ _ wr hown
      go_wp2
      go_ret
      exact ⟨rfl, HB.out⟩

end Go.Proofs.YtfogcgegllhmmaaGreatDoor
