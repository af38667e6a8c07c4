/-
  What the calls octet.value and octet.Unhex come to, at every text.
-/
import Derived.Test.YtnlbhmjgeedgpaaDoorHex
import Derived.Test.YtnlbhmjgeedgpaaDoorUnhexMath
set_option linter.unusedVariables false
set_option linter.unusedSimpArgs false
namespace Go.Proofs.YtnlbhmjgeedgpaaDoor
open Go.RowKit

theorem ret_val {a b : Int} (h : a = b) : Ending.returned (.tuple #[.int .u8 a, .bool true]) = .returned (.tuple #[.int .u8 b, .bool true]) := by rw [h]

theorem value_some (n v : Nat) (w : World) (h : Mt.hv n = some v) : Calls Tryd.prog 92 #[.int .u8 n] w fun e w' => e = .returned (.tuple #[.int .u8 v, .bool true]) ∧ w = w' := by
  unfold Mt.hv at h
  by_cases h1 : 48 ≤ n ∧ n ≤ 57
  · rw [if_pos h1] at h
    have hv : (v : Int) = (n : Int) - 48 := by cases h; omega
    have HV := Lib.hid hv
    have a1 : (48 : Int) ≤ (n : Int) := by omega
    have a2 : (n : Int) ≤ 57 := by omega
    clear h h1 hv
    go_enter Tryd.func92, Tryd.ntmps92
    go_wp2
    go_ret2
    exact ⟨ret_val (by rw [HV.out]), rfl⟩
  · rw [if_neg h1] at h
    by_cases h2 : 97 ≤ n ∧ n ≤ 102
    · rw [if_pos h2] at h
      have hv : (v : Int) = (n : Int) - 97 + 10 := by cases h; omega
      have HV := Lib.hid hv
      have b1 : decide ((n : Int) ≤ 57) = false := by simp; omega
      have a1 : (97 : Int) ≤ (n : Int) := by omega
      have a2 : (n : Int) ≤ 102 := by omega
      clear h h1 h2 hv
      go_enter Tryd.func92, Tryd.ntmps92
      go_wp2
      go_ret2
      exact ⟨ret_val (by rw [HV.out]), rfl⟩
    · rw [if_neg h2] at h
      by_cases h3 : 65 ≤ n ∧ n ≤ 70
      · rw [if_pos h3] at h
        have hv : (v : Int) = (n : Int) - 65 + 10 := by cases h; omega
        have HV := Lib.hid hv
        have b1 : decide ((n : Int) ≤ 57) = false := by simp; omega
        have b2 : decide ((97 : Int) ≤ (n : Int)) = false := by simp; omega
        have a1 : (65 : Int) ≤ (n : Int) := by omega
        have a2 : (n : Int) ≤ 70 := by omega
        clear h h1 h2 h3 hv
        go_enter Tryd.func92, Tryd.ntmps92
        go_wp2
        go_ret2
        exact ⟨ret_val (by rw [HV.out]), rfl⟩
      · rw [if_neg h3] at h
        cases h

theorem value_none (n : Nat) (w : World) (h : Mt.hv n = none) : Calls Tryd.prog 92 #[.int .u8 n] w fun e w' => e = .returned (.tuple #[.int .u8 0, .bool false]) ∧ w = w' := by
  have h1 : ¬ (48 ≤ n ∧ n ≤ 57) := fun h1 => by simp [Mt.hv, h1] at h
  have h2 : ¬ (97 ≤ n ∧ n ≤ 102) := fun h2 => by simp [Mt.hv, h1, h2] at h
  have h3 : ¬ (65 ≤ n ∧ n ≤ 70) := fun h3 => by simp [Mt.hv, h1, h2, h3] at h
  clear h
  by_cases k1 : 48 ≤ n
  · have b1 : decide ((n : Int) ≤ 57) = false := by simp; omega
    have a1 : (48 : Int) ≤ (n : Int) := by omega
    by_cases k2 : 65 ≤ n
    · have b2 : decide ((n : Int) ≤ 70) = false := by simp; omega
      have a2 : (65 : Int) ≤ (n : Int) := by omega
      by_cases k3 : 97 ≤ n
      · have b3 : decide ((n : Int) ≤ 102) = false := by simp; omega
        have a3 : (97 : Int) ≤ (n : Int) := by omega
        clear h1 h2 h3 k1 k2 k3
        go_enter Tryd.func92, Tryd.ntmps92
        go_wp2
        go_ret2
        exact ⟨rfl, rfl⟩
      · have b3 : decide ((97 : Int) ≤ (n : Int)) = false := by simp; omega
        clear h1 h2 h3 k1 k2 k3
        go_enter Tryd.func92, Tryd.ntmps92
        go_wp2
        go_ret2
        exact ⟨rfl, rfl⟩
    · have b2 : decide ((65 : Int) ≤ (n : Int)) = false := by simp; omega
      have b3 : decide ((97 : Int) ≤ (n : Int)) = false := by simp; omega
      clear h1 h2 h3 k1 k2
      go_enter Tryd.func92, Tryd.ntmps92
      go_wp2
      go_ret2
      exact ⟨rfl, rfl⟩
  · have b1 : decide ((48 : Int) ≤ (n : Int)) = false := by simp; omega
    have b2 : decide ((65 : Int) ≤ (n : Int)) = false := by simp; omega
    have b3 : decide ((97 : Int) ≤ (n : Int)) = false := by simp; omega
    clear h1 h2 h3 k1
    go_enter Tryd.func92, Tryd.ntmps92
    go_wp2
    go_ret2
    exact ⟨rfl, rfl⟩

theorem ret_pair {a : ByteArray} {b : Bool} {r : List UInt8 × Bool} (h : r = (a.data.toList, b)) : Ending.returned (.tuple #[.string a, .bool b]) = .returned (.tuple #[.string (Mt.str r.1), .bool r.2]) := by
  subst h; rfl

set_option maxHeartbeats 800000 in
set_option maxRecDepth 100000 in
theorem unhex_any (s : ByteArray) (w : World) (hs : s.size ≤ 281474976710656) :
    Calls Tryd.prog 86 #[.string s] w fun e w' => e = .returned (.tuple #[.string (Mt.str (Mt.unhex s.data.toList).1), .bool (Mt.unhex s.data.toList).2]) ∧ Below w.heap.size w w' := by
  have hll : s.data.toList.length = s.size := rfl
  by_cases hodd : s.size % 2 = 0
  · obtain ⟨m, hm⟩ : ∃ m, s.size = 2 * m := ⟨s.size / 2, by omega⟩
    have hm2 : s.data.toList.length / 2 = m := by omega
    have hgd : ∀ j (h : j < s.size), s.data.toList.getD j 0 = s[j] := fun j h => by
      simp [List.getD, List.getElem?_eq_getElem (show j < s.data.toList.length by simpa using h)]; rfl
    have HGD := Lib.hid hgd
    have HBAD := Lib.hid (fun k (hk : k < m) (h : Mt.pv s.data.toList k = none) => Mt.unhex_bad (l := s.data.toList) (k := k) (by omega) h)
    have HGOOD := Lib.hid (fun o (ho : Mt.uh s.data.toList m = some o) => Mt.unhex_good (l := s.data.toList) (o := o) (by omega) (by rw [hm2]; exact ho))
    have hev : (((s.size : Int) % 2) != 0) = false := by
      have : (s.size : Int) % 2 = 0 := by omega
      rw [this]; rfl
    have hh : (s.size : Int) / 2 = (m : Int) := by omega
    have hmle : m ≤ 140737488355328 := by omega
    have HM := Lib.hid hm
    clear hgd hm2 hll hodd hm
    obtain ⟨i0, hi, hz0, hz1, hz2⟩ := info_parts Tryd.info5
    go_enter Tryd.func86, Tryd.ntmps86
    go_wp2_with (at_make; refine wpList_make_own _ rfl _ _ 54 rfl w.heap.size 5 i0 (.int .u8 0) 1 Tryd.underlying54 hi hz0 hz1 .i64 .i64 _ m rfl rfl (by first | rfl | assumption | omega) (by rw [hz2]; omega) (by unfold maxLen; omega) (Nat.le_refl _) ?_; intro w1 hown hgr)
    have hb1 : Hid (Below w.heap.size w w1) := (Below.refl _ _).grown hgr (Nat.le_refl _) (fun k hk => by cases hk)
    clear hgr
    go_loopw [4, 5] (fun v i wr => ∃ (k : Nat) (o : List UInt8), k ≤ m ∧ i = .int .i64 (2 * (k : Int)) ∧ v = .slice (some ⟨w.heap.size, 0, none⟩) k m ∧ wr.ownsRow w.heap.size 5 1 (.slice (some ⟨w.heap.size, 0, none⟩) k m) k (Mt.cs o) ∧ Hid (Mt.uh s.data.toList k = some o) ∧ Hid (Below w.heap.size w wr))
      (fun _ i _ => 2 * m - (intOf i).toNat)
    case atStart => exact ⟨0, [], Nat.zero_le _, rfl, rfl, hown, Lib.hid rfl, hb1⟩
    case round =>
      obtain ⟨k, o, hk, rfl, rfl, hown, HO, HB⟩ := hrel
      have hsz := HB.out.size
      have hsm : (s.size : Int) = 2 * (m : Int) := by have := HM.out; omega
      by_cases hlt : k < m
      · have i0' : 2 * k < s.size := by have := HM.out; omega
        have i1' : 2 * k + 1 < s.size := by have := HM.out; omega
        obtain ⟨c, hc⟩ : ∃ c, s[2 * k] = c := ⟨_, rfl⟩
        obtain ⟨d, hd⟩ : ∃ d, s[2 * k + 1] = d := ⟨_, rfl⟩
        have hcg : s.data.toList.getD (2 * k) 0 = c := by rw [HGD.out _ i0', hc]
        have hdg : s.data.toList.getD (2 * k + 1) 0 = d := by rw [HGD.out _ i1', hd]
        have HSM := Lib.hid hsm
        have HCG := Lib.hid hcg
        have HDG := Lib.hid hdg
        have l0 : 2 * (k : Int) < (s.size : Int) := by omega
        have l1 : 2 * (k : Int) + 1 < (s.size : Int) := by omega
        clear hcg hdg hsm
        cases hx : Mt.hv c.toNat with
        | none =>
          have HU := Lib.hid (HBAD.out k hlt (Mt.pv_none1 (by rw [HCG.out]; exact hx)))
          have V1 := Lib.hid (fun u => value_none c.toNat u hx)
          cases hy : Mt.hv d.toNat with
          | none =>
            have V2 := Lib.hid (fun u => value_none d.toNat u hy)
            clear hx hy
            go_wp2_with fail
            refine (V1.out _).mono ?_
            rintro e w2 ⟨rfl, rfl⟩
            go_wp2_with fail
            refine (V2.out _).mono ?_
            rintro e w2 ⟨rfl, rfl⟩
            go_wp2_with fail
            go_ret2
            exact ⟨ret_pair HU.out, HB.out⟩
          | some y =>
            have V2 := Lib.hid (fun u => value_some d.toNat y u hy)
            clear hx hy
            go_wp2_with fail
            refine (V1.out _).mono ?_
            rintro e w2 ⟨rfl, rfl⟩
            go_wp2_with fail
            refine (V2.out _).mono ?_
            rintro e w2 ⟨rfl, rfl⟩
            go_wp2_with fail
            go_ret2
            exact ⟨ret_pair HU.out, HB.out⟩
        | some x =>
          have V1 := Lib.hid (fun u => value_some c.toNat x u hx)
          cases hy : Mt.hv d.toNat with
          | none =>
            have HU := Lib.hid (HBAD.out k hlt (Mt.pv_none2 (by rw [HDG.out]; exact hy)))
            have V2 := Lib.hid (fun u => value_none d.toNat u hy)
            clear hx hy
            go_wp2_with fail
            refine (V1.out _).mono ?_
            rintro e w2 ⟨rfl, rfl⟩
            go_wp2_with fail
            refine (V2.out _).mono ?_
            rintro e w2 ⟨rfl, rfl⟩
            go_wp2_with fail
            go_ret2
            exact ⟨ret_pair HU.out, HB.out⟩
          | some y =>
            have V2 := Lib.hid (fun u => value_some d.toNat y u hy)
            have HP := Lib.hid (Mt.uh_some HO.out (Mt.pv_some (l := s.data.toList) (k := k) (x := x) (y := y) (by rw [HCG.out]; exact hx) (by rw [HDG.out]; exact hy)))
            have hx16 := Mt.hv_lt hx
            have hy16 := Mt.hv_lt hy
            have hor := Mt.or_half x y (by omega) (by omega) (by omega) (by omega)
            have HV := Lib.hid (Mt.ofNat_pair x y hx16 hy16)
            have hx0 : (0 : Int) ≤ (x : Int) * 16 := by omega
            have hx1 : (x : Int) * 16 ≤ 255 := by omega
            clear hx hy
            go_wp2_with fail
            refine (V1.out _).mono ?_
            rintro e w2 ⟨rfl, rfl⟩
            go_wp2_with fail
            refine (V2.out _).mono ?_
            rintro e w2 ⟨rfl, rfl⟩
            go_wp2_with (at_builtin; refine wpList_append_fits _ rfl _ _ 54 rfl w.heap.size 5 i0 1 Tryd.underlying54 hi hz1 w.heap.size k m _ rfl (hown.alloc _) ⟨wr.heap.size, 0, none⟩ 1 1 [.int .u8 ((x : Int) * 16 + y)] rfl rfl (cell_one_new _ _ _) (by simp [Value.oneCell']) (by omega) ?_; intro w2 hown2 hgr2)
            go_roundw
            case rel =>
              refine ⟨k + 1, o ++ [UInt8.ofNat (16 * x + y)], by omega, by go_num, rfl, ?_, Lib.hid HP.out, Lib.hid ((HB.out.alloc hsz _).grown hgr2 (by simp; omega) (fun j hj => by cases hj; exact Nat.le_refl _))⟩
              rw [Mt.cs_append]
              have e : Mt.cs [UInt8.ofNat (16 * x + y)] = [.int .u8 ((x : Int) * 16 + y)] := by rw [← HV.out]; rfl
              rw [e]
              exact hown2
            case measure => simp [intOf]; omega
      · obtain rfl : k = m := by omega
        have hcv := conv_row o w.heap.size w.heap.size k k wr (Mt.uh_length HO.out) hown
        have HU := Lib.hid (HGOOD.out o HO.out)
        have l0 : ¬ 2 * (k : Int) < (s.size : Int) := by omega
        clear hsm
        go_wp2
        go_ret2
        exact ⟨ret_pair (by rw [HU.out]; rfl), HB.out⟩
  · go_enter Tryd.func86, Tryd.ntmps86
    have hd : (((s.size : Int) % 2) != 0) = true := by simp; omega
    have HU := Lib.hid (Mt.unhex_odd (l := s.data.toList) (by omega))
    clear hodd hll
    go_wp2
    go_ret2
    exact ⟨ret_pair HU.out, Below.refl _ _⟩

end Go.Proofs.YtnlbhmjgeedgpaaDoor
