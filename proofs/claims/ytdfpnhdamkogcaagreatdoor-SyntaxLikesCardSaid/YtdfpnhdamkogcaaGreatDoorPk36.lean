/-
  Some texts of one proof, one behind the other.
-/
import Derived.Test.YtdfpnhdamkogcaaGreatDoorPk4
import Derived.Test.YtdfpnhdamkogcaaGreatDoorPk5
set_option linter.unusedVariables false
set_option linter.unusedSimpArgs false

/-
  The document's UTF-8: its walk.
-/
namespace Go.Proofs.YtdfpnhdamkogcaaGreatDoor
open Go.RowKit Go.Lib

def szV : Value → Nat
  | .string s => s.size
  | _ => 0
/-- A byte of a text. -/
def Mt.bt (l : List UInt8) (j : Nat) : Nat := (l.getD j 0).toNat
/-- What has been read of a character. -/
def Mt.accU (l : List UInt8) (c : Nat) : Nat → Nat
  | 0 => c
  | k + 1 => Mt.accU l c k * 64 + (Mt.bt l (k + 1) - 128)
theorem Mt.utf_low {l : List UInt8} (hne : l ≠ []) (h : Mt.bt l 0 < 128) : validD l = validD (l.drop 1) := by rw [Mt.utf_step l hne]; exact if_pos h
theorem Mt.utf_mid {l : List UInt8} (hne : l ≠ []) (h : ¬ Mt.bt l 0 < 128) (h2 : Mt.bt l 0 < 192) : validD l = false := by
  rw [Mt.utf_step l hne]
  unfold Mt.bt at h h2
  rw [if_neg h]
  unfold Mt.docN
  rw [if_neg (by omega), if_neg (by omega), if_neg (by omega)]
theorem Mt.utf_2 {l : List UInt8} (hne : l ≠ []) (h : 192 ≤ Mt.bt l 0 ∧ Mt.bt l 0 < 224) : validD l = if 2 ≤ l.length ∧ Mt.contN (Mt.bt l 1) = true ∧ 128 ≤ Mt.accU l (Mt.bt l 0 - 192) 1 then validD (l.drop 2) else false := by
  have h' := h
  unfold Mt.bt at h'
  rw [Mt.utf_step l hne, if_neg (by omega)]
  unfold Mt.docN
  rw [if_neg (show ¬ 240 ≤ (l.getD 0 0).toNat by omega), if_neg (show ¬ 224 ≤ (l.getD 0 0).toNat by omega), if_pos (show 192 ≤ (l.getD 0 0).toNat by omega)]
  show (match (if 2 ≤ l.length ∧ Mt.contN (Mt.bt l 1) = true ∧ 128 ≤ Mt.accU l (Mt.bt l 0 - 192) 1 then some 2 else none : Option Nat) with | none => false | some k => validD (l.drop k)) = _
  by_cases g : 2 ≤ l.length ∧ Mt.contN (Mt.bt l 1) = true ∧ 128 ≤ Mt.accU l (Mt.bt l 0 - 192) 1
  · rw [if_pos g, if_pos g]
  · rw [if_neg g, if_neg g]
theorem Mt.utf_3 {l : List UInt8} (hne : l ≠ []) (h : 224 ≤ Mt.bt l 0 ∧ Mt.bt l 0 < 240) : validD l = if 3 ≤ l.length ∧ Mt.contN (Mt.bt l 1) = true ∧ Mt.contN (Mt.bt l 2) = true ∧ 2048 ≤ Mt.accU l (Mt.bt l 0 - 224) 2 ∧ ¬ (55296 ≤ Mt.accU l (Mt.bt l 0 - 224) 2 ∧ Mt.accU l (Mt.bt l 0 - 224) 2 < 57344) then validD (l.drop 3) else false := by
  have h' := h
  unfold Mt.bt at h'
  rw [Mt.utf_step l hne, if_neg (by omega)]
  unfold Mt.docN
  rw [if_neg (show ¬ 240 ≤ (l.getD 0 0).toNat by omega), if_pos (show 224 ≤ (l.getD 0 0).toNat by omega)]
  show (match (if 3 ≤ l.length ∧ Mt.contN (Mt.bt l 1) = true ∧ Mt.contN (Mt.bt l 2) = true ∧ 2048 ≤ Mt.accU l (Mt.bt l 0 - 224) 2 ∧ ¬ (55296 ≤ Mt.accU l (Mt.bt l 0 - 224) 2 ∧ Mt.accU l (Mt.bt l 0 - 224) 2 < 57344) then some 3 else none : Option Nat) with | none => false | some k => validD (l.drop k)) = _
  by_cases g : 3 ≤ l.length ∧ Mt.contN (Mt.bt l 1) = true ∧ Mt.contN (Mt.bt l 2) = true ∧ 2048 ≤ Mt.accU l (Mt.bt l 0 - 224) 2 ∧ ¬ (55296 ≤ Mt.accU l (Mt.bt l 0 - 224) 2 ∧ Mt.accU l (Mt.bt l 0 - 224) 2 < 57344)
  · rw [if_pos g, if_pos g]
  · rw [if_neg g, if_neg g]
theorem Mt.utf_4 {l : List UInt8} (hne : l ≠ []) (h : 240 ≤ Mt.bt l 0) : validD l = if 4 ≤ l.length ∧ Mt.contN (Mt.bt l 1) = true ∧ Mt.contN (Mt.bt l 2) = true ∧ Mt.contN (Mt.bt l 3) = true ∧ 65536 ≤ Mt.accU l (Mt.bt l 0 - 240) 3 ∧ Mt.accU l (Mt.bt l 0 - 240) 3 ≤ 1114111 then validD (l.drop 4) else false := by
  have h' := h
  unfold Mt.bt at h'
  rw [Mt.utf_step l hne, if_neg (by omega)]
  unfold Mt.docN
  rw [if_pos (show 240 ≤ (l.getD 0 0).toNat by omega)]
  show (match (if 4 ≤ l.length ∧ Mt.contN (Mt.bt l 1) = true ∧ Mt.contN (Mt.bt l 2) = true ∧ Mt.contN (Mt.bt l 3) = true ∧ 65536 ≤ Mt.accU l (Mt.bt l 0 - 240) 3 ∧ Mt.accU l (Mt.bt l 0 - 240) 3 ≤ 1114111 then some 4 else none : Option Nat) with | none => false | some k => validD (l.drop k)) = _
  by_cases g : 4 ≤ l.length ∧ Mt.contN (Mt.bt l 1) = true ∧ Mt.contN (Mt.bt l 2) = true ∧ Mt.contN (Mt.bt l 3) = true ∧ 65536 ≤ Mt.accU l (Mt.bt l 0 - 240) 3 ∧ Mt.accU l (Mt.bt l 0 - 240) 3 ≤ 1114111
  · rw [if_pos g, if_pos g]
  · rw [if_neg g, if_neg g]
set_option maxHeartbeats 4000000 in
set_option maxRecDepth 100000 in
theorem rutf_any (s : ByteArray) (hs : s.size ≤ 9223372036854775806) (w : World) : Calls Tryz.prog 20 #[.string s] w fun e w' => e = .returned (.bool (validD s.data.toList)) ∧ w = w' := by
  obtain ⟨Z, hZ⟩ : ∃ Z, validD s.data.toList = Z := ⟨_, rfl⟩
  have HZ0 := Lib.hid hZ
  rw [hZ]
  clear hZ
  go_enter Tryz.func20, Tryz.ntmps20
  go_wp2_with fail
  go_loopw [0] (fun sv wr => ∃ S : ByteArray, sv = .string S ∧ Hid (validD S.data.toList = Z) ∧ S.size ≤ 9223372036854775806 ∧ wr = w) (fun sv _ => szV sv)
  case atStart => exact ⟨s, rfl, HZ0, hs, rfl⟩
  case round =>
    obtain ⟨S, rfl, HZ, hS, rfl⟩ := hrel
    clear HZ0 hs
    by_cases h0 : S.size = 0
    · have hz : Z = true := by
        rw [← HZ.out, List.eq_nil_of_length_eq_zero (show S.data.toList.length = 0 from h0)]; rfl
      have d0 : decide ((0 : Int) < (S.size : Int)) = false := decide_eq_false (by omega)
      have d0n : decide (0 < S.size) = false := decide_eq_false (by omega)
      clear h0
      go_wp2_with fail
      go_ret
      exact ⟨by rw [hz]; rfl, rfl⟩
    have hpos : 0 < S.size := by omega
    have hpi : (0 : Int) < (S.size : Int) := by omega
    have d0 : decide ((0 : Int) < (S.size : Int)) = true := decide_eq_true hpi
    have hne : S.data.toList ≠ [] := fun e => by have : S.data.toList.length = S.size := rfl; rw [e] at this; simp at this; omega
    have HB0 := Lib.hid (show Mt.bt S.data.toList 0 = S[0].toNat by unfold Mt.bt; simp [List.getD, List.getElem?_eq_getElem (show 0 < S.data.toList.length from hpos)]; rfl)
    have HLOW := Lib.hid (Mt.utf_low hne)
    have HMID := Lib.hid (Mt.utf_mid hne)
    have HU2 := Lib.hid (Mt.utf_2 hne)
    have HU3 := Lib.hid (Mt.utf_3 hne)
    have HU4 := Lib.hid (Mt.utf_4 hne)
    have HLN := Lib.hid (show S.data.toList.length = S.size from rfl)
    have HEX := Lib.hid (fun N (h : N ≤ S.size) => (show (S.extract N S.size).data.toList = S.data.toList.drop N by rw [ext_data, List.take_of_length_le (by rw [List.length_drop]; exact Nat.le_refl _)]))
    have HES := Lib.hid (fun N => ext_size S N S.size (Nat.le_refl _))
    have HBT := Lib.hid (fun j (h : j < S.size) => (show Mt.bt S.data.toList j = S[j].toNat by unfold Mt.bt; simp [List.getD, List.getElem?_eq_getElem (show j < S.data.toList.length from h)]; rfl))
    obtain ⟨L, hL⟩ : ∃ L, S.data.toList = L := ⟨_, rfl⟩
    rw [hL] at HZ HB0 HLOW HMID HU2 HU3 HU4 HLN HEX HBT
    clear hne hL h0
    obtain ⟨X, hX⟩ : ∃ X, S[0].toNat = X := ⟨_, rfl⟩
    rw [hX] at HB0
    have hX256 : X < 256 := by rw [← hX]; exact UInt8.toNat_lt _
    by_cases x1 : X < 128
    · have e1 : decide ((240 : Int) ≤ (X : Int)) = false := decide_eq_false (by omega)
      have e2 : decide ((224 : Int) ≤ (X : Int)) = false := decide_eq_false (by omega)
      have e3 : decide ((192 : Int) ≤ (X : Int)) = false := decide_eq_false (by omega)
      have e4 : decide ((128 : Int) ≤ (X : Int)) = false := decide_eq_false (by omega)
      have e5 : decide ((S.size : Int) < 1) = false := decide_eq_false (by omega)
      have e6 : decide ((1114111 : Int) < (X : Int)) = false := decide_eq_false (by omega)
      have e7 : decide ((55296 : Int) ≤ (X : Int)) = false := decide_eq_false (by omega)
      have HV := Lib.hid (HLOW.out (by rw [HB0.out]; exact x1))
      have hsl : (1 : Int) ≤ (S.size : Int) := by omega
      clear HLOW HMID HU2 HU3 HU4 HBT x1
      go_wp2_with fail
      obtain ⟨wo, hwo⟩ : ∃ wo, wo = wr := ⟨_, rfl⟩
      go_loopw [3, 5] (fun t3 t5 wx => t3 = .int .i64 (X : Int) ∧ t5 = .int .i64 1 ∧ wx = wr) (fun _ _ _ => 0)
      case atStart => exact ⟨rfl, rfl, rfl⟩
      case round =>
        obtain ⟨rfl, rfl, rfl⟩ := hrel
        go_wp2_with fail
        go_roundw
        case rel => exact ⟨S.extract 1 S.size, rfl, Lib.hid (by rw [HEX.out 1 (by omega), ← HV.out]; exact HZ.out), by rw [HES.out]; omega, trivial⟩
        case measure => show (S.extract 1 S.size).size < S.size; rw [HES.out]; omega
    by_cases x2 : X < 192
    · have e1 : decide ((240 : Int) ≤ (X : Int)) = false := decide_eq_false (by omega)
      have e2 : decide ((224 : Int) ≤ (X : Int)) = false := decide_eq_false (by omega)
      have e3 : decide ((192 : Int) ≤ (X : Int)) = false := decide_eq_false (by omega)
      have e4 : decide ((128 : Int) ≤ (X : Int)) = true := decide_eq_true (by omega)
      have HV := Lib.hid (HMID.out (by rw [HB0.out]; exact x1) (by rw [HB0.out]; exact x2))
      clear HLOW HMID HU2 HU3 HU4 HBT x1 x2
      go_wp2_with fail
      go_ret
      exact ⟨by rw [← HZ.out, HV.out]; rfl, rfl⟩
    by_cases x3 : X < 224
    · have e0 : decide ((240 : Int) ≤ (X : Int)) = false := decide_eq_false (by omega)
      have e1 : decide ((224 : Int) ≤ (X : Int)) = false := decide_eq_false (by omega)
      have e2 : decide ((192 : Int) ≤ (X : Int)) = true := decide_eq_true (by omega)
      have HV := Lib.hid (HU2.out ⟨by rw [HB0.out]; omega, by rw [HB0.out]; omega⟩)
      have HBAD : Hid (∀ j, 1 ≤ j → j < 2 → Mt.contN (Mt.bt L j) = false → Z = false) := Lib.hid (by
        intro j h1 h2 hc
        rw [← HZ.out, HV.out]
        refine if_neg ?_
        rintro ⟨_, g1, _⟩
        have hj : j = 1 ∨ j = 2 ∨ j = 3 := by omega
        rcases hj with rfl | rfl | rfl <;> first | omega | simp_all)
      have HSH := Lib.hid (fun (h : S.size < 2) => (show Z = false by rw [← HZ.out, HV.out]; exact if_neg (fun g => by have := g.1; have := HLN.out; omega)))
      have HGD : Hid (2 ≤ S.size → (∀ j, 1 ≤ j → j < 2 → Mt.contN (Mt.bt L j) = true) → ∀ C, C = Mt.accU L (X - 192) 1 → Z = if 128 ≤ C then validD (L.drop 2) else false) := Lib.hid (by
        intro hl h C hC
        subst hC
        rw [← HZ.out, HV.out, HB0.out]
        by_cases g : 128 ≤ Mt.accU L (X - 192) 1
        · rw [if_pos g, if_pos ⟨by rw [HLN.out]; exact hl, h 1 (by omega) (by omega), g⟩]
        · rw [if_neg g, if_neg (fun k => g k.2.2)])
      clear HLOW HMID HU2 HU3 HU4 HV
      by_cases hl : S.size < 2
      · have HG := Lib.hid (HSH.out hl)
        have e5 : decide ((S.size : Int) < 2) = true := decide_eq_true (by omega)
        clear HSH HGD HBAD hl
        go_wp2_with fail
        go_ret
        exact ⟨by rw [HG.out]; rfl, rfl⟩
      have e5 : decide ((S.size : Int) < 2) = false := decide_eq_false (by omega)
      replace HGD := Lib.hid (HGD.out (by omega))
      have hsl : (2 : Int) ≤ (S.size : Int) := by omega
      have hXi : (X : Int) < 256 := by omega
      have hXl : (192 : Int) ≤ (X : Int) := by omega
      clear HSH
      go_wp2_with fail
      obtain ⟨wo, hwo⟩ : ∃ wo, wo = wr := ⟨_, rfl⟩
      go_loopw [3, 5] (fun t3 t5 wx => ∃ (k C : Nat), t5 = .int .i64 (k : Int) ∧ t3 = .int .i64 (C : Int) ∧ 1 ≤ k ∧ k ≤ 2 ∧ (k ≤ 1 → C ≤ 63) ∧ (k ≤ 2 → C ≤ 4200) ∧ (k ≤ 3 → C ≤ 270000) ∧ C ≤ 20000000 ∧ Hid (C = Mt.accU L (X - 192) (k - 1)) ∧ Hid (∀ j, 1 ≤ j → j < k → Mt.contN (Mt.bt L j) = true) ∧ wx = wr) (fun _ t5 _ => 2 - (intOf t5).toNat)
      case atStart => exact ⟨1, X - 192, rfl, by first | (congr 1; omega) | (simp; omega), by omega, by omega, fun _ => by omega, fun _ => by omega, fun _ => by omega, by omega, Lib.hid rfl, Lib.hid (fun j h1 h2 => by omega), rfl⟩
      case round =>
        obtain ⟨k, C, rfl, rfl, k1, k2, c1, c2, c3, c4, HA, HK, rfl⟩ := hrel
        by_cases hk : k < 2
        · have hkS : k < S.size := by omega
          have hkSi : (k : Int) < (S.size : Int) := by omega
          have i1 : decide ((k : Int) < 2) = true := decide_eq_true (by omega)
          have hCi : (C : Int) ≤ 270000 := by have := c3 (by omega); omega
          have hki : (k : Int) ≤ 4 := by omega
          have HBk := Lib.hid (HBT.out k hkS)
          have HBD := Lib.hid (HBAD.out k k1 hk)
          obtain ⟨Y, hY⟩ : ∃ Y, S[k].toNat = Y := ⟨_, rfl⟩
          rw [hY] at HBk
          have hY256 : Y < 256 := by rw [← hY]; exact UInt8.toNat_lt _
          have hYi : (Y : Int) < 256 := by omega
          by_cases y1 : Y < 128
          · have HG := Lib.hid (HBD.out (by rw [HBk.out, Bool.eq_false_iff, ne_eq, Mt.contN_iff]; omega))
            have q1 : decide ((Y : Int) < 128) = true := decide_eq_true (by omega)
            clear y1 c1 c2 c3 HBD HBAD HGD
            go_wp2_with fail
            go_ret
            exact ⟨by rw [HG.out]; rfl, rfl⟩
          have q1 : decide ((Y : Int) < 128) = false := decide_eq_false (by omega)
          by_cases y2 : 192 ≤ Y
          · have HG := Lib.hid (HBD.out (by rw [HBk.out, Bool.eq_false_iff, ne_eq, Mt.contN_iff]; omega))
            have q2 : decide ((192 : Int) ≤ (Y : Int)) = true := decide_eq_true (by omega)
            clear y1 y2 c1 c2 c3 HBD HBAD HGD
            go_wp2_with fail
            go_ret
            exact ⟨by rw [HG.out]; rfl, rfl⟩
          have q2 : decide ((192 : Int) ≤ (Y : Int)) = false := decide_eq_false (by omega)
          have HN := Lib.hid (And.intro y1 y2)
          have HCC := Lib.hid (And.intro c1 (And.intro c2 c3))
          have HC2 : Hid (C * 64 + (Y - 128) = Mt.accU L (X - 192) k) := Lib.hid (by
            obtain ⟨k', rfl⟩ : ∃ k', k = k' + 1 := ⟨k - 1, by omega⟩
            show _ = Mt.accU L (X - 192) k' * 64 + (Mt.bt L (k' + 1) - 128)
            rw [HBk.out, HA.out]; rfl)
          have hC0 : (0 : Int) ≤ (C : Int) := by omega
          have hY0 : (128 : Int) ≤ (Y : Int) := by omega
          clear y1 y2 c1 c2 c3
          go_wp2_with fail
          go_roundw
          case rel =>
            obtain ⟨c1, c2, c3⟩ := HCC.out
            obtain ⟨y1, y2⟩ := HN.out
            refine ⟨k + 1, C * 64 + (Y - 128), rfl, by first | (congr 1; omega) | (simp; omega), by omega, by omega, fun _ => by omega, fun h => ?_, fun h => ?_, ?_, Lib.hid HC2.out, Lib.hid (fun j h1 h2 => ?_), trivial⟩
            · have := c1 (by omega); omega
            · have := c2 (by omega); omega
            · have := c3 (by omega); omega
            · by_cases hj : j = k
              · subst hj; rw [HBk.out, Mt.contN_iff]; omega
              · exact HK.out j h1 (by omega)
          case measure => show 2 - (((k + 1 : Nat) : Int)).toNat < 2 - ((k : Nat) : Int).toNat; omega
        · obtain rfl : k = 2 := by omega
          have hCi : (C : Int) ≤ 20000000 := by omega
          have hC0 : (0 : Int) ≤ (C : Int) := by omega
          have h42 : C ≤ 4200 := c2 (by omega)
          clear c1 c2 c3
          by_cases g : C < 128
          · have HG := Lib.hid (show Z = false by rw [HGD.out HK.out C HA.out, if_neg (by omega)])
            clear HGD HBAD
            have q1 : decide ((C : Int) < 128) = true := decide_eq_true (by omega)
            go_wp2_with fail
            go_ret
            exact ⟨by rw [HG.out]; rfl, rfl⟩
          · have HG := Lib.hid (show Z = validD (L.drop 2) by rw [HGD.out HK.out C HA.out, if_pos (by omega)])
            clear HGD HBAD
            have q1 : decide ((C : Int) < 128) = false := decide_eq_false (by omega)
            have q2 : decide ((1114111 : Int) < (C : Int)) = false := decide_eq_false (by omega)
            have q3 : decide ((55296 : Int) ≤ (C : Int)) = false := decide_eq_false (by omega)
            go_wp2_with fail
            go_roundw
            case rel => exact ⟨S.extract 2 S.size, rfl, Lib.hid (by rw [HEX.out 2 (by omega), ← HG.out]), by rw [HES.out]; omega, trivial⟩
            case measure => show (S.extract 2 S.size).size < S.size; rw [HES.out]; omega
    by_cases x4 : X < 240
    · have e0 : decide ((240 : Int) ≤ (X : Int)) = false := decide_eq_false (by omega)
      have e1 : decide ((224 : Int) ≤ (X : Int)) = true := decide_eq_true (by omega)
      have HV := Lib.hid (HU3.out ⟨by rw [HB0.out]; omega, by rw [HB0.out]; omega⟩)
      have HBAD : Hid (∀ j, 1 ≤ j → j < 3 → Mt.contN (Mt.bt L j) = false → Z = false) := Lib.hid (by
        intro j h1 h2 hc
        rw [← HZ.out, HV.out]
        refine if_neg ?_
        rintro ⟨_, g1, g2, _⟩
        have hj : j = 1 ∨ j = 2 ∨ j = 3 := by omega
        rcases hj with rfl | rfl | rfl <;> first | omega | simp_all)
      have HSH := Lib.hid (fun (h : S.size < 3) => (show Z = false by rw [← HZ.out, HV.out]; exact if_neg (fun g => by have := g.1; have := HLN.out; omega)))
      have HGD : Hid (3 ≤ S.size → (∀ j, 1 ≤ j → j < 3 → Mt.contN (Mt.bt L j) = true) → ∀ C, C = Mt.accU L (X - 224) 2 → Z = if 2048 ≤ C ∧ ¬ (55296 ≤ C ∧ C < 57344) then validD (L.drop 3) else false) := Lib.hid (by
        intro hl h C hC
        subst hC
        rw [← HZ.out, HV.out, HB0.out]
        by_cases g : 2048 ≤ Mt.accU L (X - 224) 2 ∧ ¬ (55296 ≤ Mt.accU L (X - 224) 2 ∧ Mt.accU L (X - 224) 2 < 57344)
        · rw [if_pos g, if_pos ⟨by rw [HLN.out]; exact hl, h 1 (by omega) (by omega), h 2 (by omega) (by omega), g⟩]
        · rw [if_neg g, if_neg (fun k => g k.2.2.2)])
      clear HLOW HMID HU2 HU3 HU4 HV
      by_cases hl : S.size < 3
      · have HG := Lib.hid (HSH.out hl)
        have e5 : decide ((S.size : Int) < 3) = true := decide_eq_true (by omega)
        clear HSH HGD HBAD hl
        go_wp2_with fail
        go_ret
        exact ⟨by rw [HG.out]; rfl, rfl⟩
      have e5 : decide ((S.size : Int) < 3) = false := decide_eq_false (by omega)
      replace HGD := Lib.hid (HGD.out (by omega))
      have hsl : (3 : Int) ≤ (S.size : Int) := by omega
      have hXi : (X : Int) < 256 := by omega
      have hXl : (224 : Int) ≤ (X : Int) := by omega
      clear HSH
      go_wp2_with fail
      obtain ⟨wo, hwo⟩ : ∃ wo, wo = wr := ⟨_, rfl⟩
      go_loopw [3, 5] (fun t3 t5 wx => ∃ (k C : Nat), t5 = .int .i64 (k : Int) ∧ t3 = .int .i64 (C : Int) ∧ 1 ≤ k ∧ k ≤ 3 ∧ (k ≤ 1 → C ≤ 63) ∧ (k ≤ 2 → C ≤ 4200) ∧ (k ≤ 3 → C ≤ 270000) ∧ C ≤ 20000000 ∧ Hid (C = Mt.accU L (X - 224) (k - 1)) ∧ Hid (∀ j, 1 ≤ j → j < k → Mt.contN (Mt.bt L j) = true) ∧ wx = wr) (fun _ t5 _ => 3 - (intOf t5).toNat)
      case atStart => exact ⟨1, X - 224, rfl, by first | (congr 1; omega) | (simp; omega), by omega, by omega, fun _ => by omega, fun _ => by omega, fun _ => by omega, by omega, Lib.hid rfl, Lib.hid (fun j h1 h2 => by omega), rfl⟩
      case round =>
        obtain ⟨k, C, rfl, rfl, k1, k2, c1, c2, c3, c4, HA, HK, rfl⟩ := hrel
        by_cases hk : k < 3
        · have hkS : k < S.size := by omega
          have hkSi : (k : Int) < (S.size : Int) := by omega
          have i1 : decide ((k : Int) < 3) = true := decide_eq_true (by omega)
          have hCi : (C : Int) ≤ 270000 := by have := c3 (by omega); omega
          have hki : (k : Int) ≤ 4 := by omega
          have HBk := Lib.hid (HBT.out k hkS)
          have HBD := Lib.hid (HBAD.out k k1 hk)
          obtain ⟨Y, hY⟩ : ∃ Y, S[k].toNat = Y := ⟨_, rfl⟩
          rw [hY] at HBk
          have hY256 : Y < 256 := by rw [← hY]; exact UInt8.toNat_lt _
          have hYi : (Y : Int) < 256 := by omega
          by_cases y1 : Y < 128
          · have HG := Lib.hid (HBD.out (by rw [HBk.out, Bool.eq_false_iff, ne_eq, Mt.contN_iff]; omega))
            have q1 : decide ((Y : Int) < 128) = true := decide_eq_true (by omega)
            clear y1 c1 c2 c3 HBD HBAD HGD
            go_wp2_with fail
            go_ret
            exact ⟨by rw [HG.out]; rfl, rfl⟩
          have q1 : decide ((Y : Int) < 128) = false := decide_eq_false (by omega)
          by_cases y2 : 192 ≤ Y
          · have HG := Lib.hid (HBD.out (by rw [HBk.out, Bool.eq_false_iff, ne_eq, Mt.contN_iff]; omega))
            have q2 : decide ((192 : Int) ≤ (Y : Int)) = true := decide_eq_true (by omega)
            clear y1 y2 c1 c2 c3 HBD HBAD HGD
            go_wp2_with fail
            go_ret
            exact ⟨by rw [HG.out]; rfl, rfl⟩
          have q2 : decide ((192 : Int) ≤ (Y : Int)) = false := decide_eq_false (by omega)
          have HN := Lib.hid (And.intro y1 y2)
          have HCC := Lib.hid (And.intro c1 (And.intro c2 c3))
          have HC2 : Hid (C * 64 + (Y - 128) = Mt.accU L (X - 224) k) := Lib.hid (by
            obtain ⟨k', rfl⟩ : ∃ k', k = k' + 1 := ⟨k - 1, by omega⟩
            show _ = Mt.accU L (X - 224) k' * 64 + (Mt.bt L (k' + 1) - 128)
            rw [HBk.out, HA.out]; rfl)
          have hC0 : (0 : Int) ≤ (C : Int) := by omega
          have hY0 : (128 : Int) ≤ (Y : Int) := by omega
          clear y1 y2 c1 c2 c3
          go_wp2_with fail
          go_roundw
          case rel =>
            obtain ⟨c1, c2, c3⟩ := HCC.out
            obtain ⟨y1, y2⟩ := HN.out
            refine ⟨k + 1, C * 64 + (Y - 128), rfl, by first | (congr 1; omega) | (simp; omega), by omega, by omega, fun _ => by omega, fun h => ?_, fun h => ?_, ?_, Lib.hid HC2.out, Lib.hid (fun j h1 h2 => ?_), trivial⟩
            · have := c1 (by omega); omega
            · have := c2 (by omega); omega
            · have := c3 (by omega); omega
            · by_cases hj : j = k
              · subst hj; rw [HBk.out, Mt.contN_iff]; omega
              · exact HK.out j h1 (by omega)
          case measure => show 3 - (((k + 1 : Nat) : Int)).toNat < 3 - ((k : Nat) : Int).toNat; omega
        · obtain rfl : k = 3 := by omega
          have hCi : (C : Int) ≤ 20000000 := by omega
          have hC0 : (0 : Int) ≤ (C : Int) := by omega
          have h43 : C ≤ 270000 := c3 (by omega)
          clear c1 c2 c3
          by_cases g : C < 2048
          · have HG := Lib.hid (show Z = false by rw [HGD.out HK.out C HA.out, if_neg (by omega)])
            clear HGD HBAD
            have q1 : decide ((C : Int) < 2048) = true := decide_eq_true (by omega)
            go_wp2_with fail
            go_ret
            exact ⟨by rw [HG.out]; rfl, rfl⟩
          · have q1 : decide ((C : Int) < 2048) = false := decide_eq_false (by omega)
            have q2 : decide ((1114111 : Int) < (C : Int)) = false := decide_eq_false (by omega)
            by_cases g2 : 55296 ≤ C
            · have q3 : decide ((55296 : Int) ≤ (C : Int)) = true := decide_eq_true (by omega)
              by_cases g3 : C < 57344
              · have HG := Lib.hid (show Z = false by rw [HGD.out HK.out C HA.out, if_neg (by omega)])
                clear HGD HBAD
                have q4 : decide ((C : Int) < 57344) = true := decide_eq_true (by omega)
                go_wp2_with fail
                go_ret
                exact ⟨by rw [HG.out]; rfl, rfl⟩
              · have HG := Lib.hid (show Z = validD (L.drop 3) by rw [HGD.out HK.out C HA.out, if_pos (by omega)])
                clear HGD HBAD
                have q4 : decide ((C : Int) < 57344) = false := decide_eq_false (by omega)
                go_wp2_with fail
                go_roundw
                case rel => exact ⟨S.extract 3 S.size, rfl, Lib.hid (by rw [HEX.out 3 (by omega), ← HG.out]), by rw [HES.out]; omega, trivial⟩
                case measure => show (S.extract 3 S.size).size < S.size; rw [HES.out]; omega
            · have HG := Lib.hid (show Z = validD (L.drop 3) by rw [HGD.out HK.out C HA.out, if_pos (by omega)])
              clear HGD HBAD
              have q3 : decide ((55296 : Int) ≤ (C : Int)) = false := decide_eq_false (by omega)
              go_wp2_with fail
              go_roundw
              case rel => exact ⟨S.extract 3 S.size, rfl, Lib.hid (by rw [HEX.out 3 (by omega), ← HG.out]), by rw [HES.out]; omega, trivial⟩
              case measure => show (S.extract 3 S.size).size < S.size; rw [HES.out]; omega
    have e0 : decide ((240 : Int) ≤ (X : Int)) = true := decide_eq_true (by omega)
    have HV := Lib.hid (HU4.out (by rw [HB0.out]; omega))
    have HBAD : Hid (∀ j, 1 ≤ j → j < 4 → Mt.contN (Mt.bt L j) = false → Z = false) := Lib.hid (by
      intro j h1 h2 hc
      rw [← HZ.out, HV.out]
      refine if_neg ?_
      rintro ⟨_, g1, g2, g3, _⟩
      have hj : j = 1 ∨ j = 2 ∨ j = 3 := by omega
      rcases hj with rfl | rfl | rfl <;> first | omega | simp_all)
    have HSH := Lib.hid (fun (h : S.size < 4) => (show Z = false by rw [← HZ.out, HV.out]; exact if_neg (fun g => by have := g.1; have := HLN.out; omega)))
    have HGD : Hid (4 ≤ S.size → (∀ j, 1 ≤ j → j < 4 → Mt.contN (Mt.bt L j) = true) → ∀ C, C = Mt.accU L (X - 240) 3 → Z = if 65536 ≤ C ∧ C ≤ 1114111 then validD (L.drop 4) else false) := Lib.hid (by
      intro hl h C hC
      subst hC
      rw [← HZ.out, HV.out, HB0.out]
      by_cases g : 65536 ≤ Mt.accU L (X - 240) 3 ∧ Mt.accU L (X - 240) 3 ≤ 1114111
      · rw [if_pos g, if_pos ⟨by rw [HLN.out]; exact hl, h 1 (by omega) (by omega), h 2 (by omega) (by omega), h 3 (by omega) (by omega), g⟩]
      · rw [if_neg g, if_neg (fun k => g k.2.2.2.2)])
    clear HLOW HMID HU2 HU3 HU4 HV
    by_cases hl : S.size < 4
    · have HG := Lib.hid (HSH.out hl)
      have e5 : decide ((S.size : Int) < 4) = true := decide_eq_true (by omega)
      clear HSH HGD HBAD hl
      go_wp2_with fail
      go_ret
      exact ⟨by rw [HG.out]; rfl, rfl⟩
    have e5 : decide ((S.size : Int) < 4) = false := decide_eq_false (by omega)
    replace HGD := Lib.hid (HGD.out (by omega))
    have hsl : (4 : Int) ≤ (S.size : Int) := by omega
    have hXi : (X : Int) < 256 := by omega
    have hXl : (240 : Int) ≤ (X : Int) := by omega
    clear HSH
    go_wp2_with fail
    obtain ⟨wo, hwo⟩ : ∃ wo, wo = wr := ⟨_, rfl⟩
    go_loopw [3, 5] (fun t3 t5 wx => ∃ (k C : Nat), t5 = .int .i64 (k : Int) ∧ t3 = .int .i64 (C : Int) ∧ 1 ≤ k ∧ k ≤ 4 ∧ (k ≤ 1 → C ≤ 63) ∧ (k ≤ 2 → C ≤ 4200) ∧ (k ≤ 3 → C ≤ 270000) ∧ C ≤ 20000000 ∧ Hid (C = Mt.accU L (X - 240) (k - 1)) ∧ Hid (∀ j, 1 ≤ j → j < k → Mt.contN (Mt.bt L j) = true) ∧ wx = wr) (fun _ t5 _ => 4 - (intOf t5).toNat)
    case atStart => exact ⟨1, X - 240, rfl, by first | (congr 1; omega) | (simp; omega), by omega, by omega, fun _ => by omega, fun _ => by omega, fun _ => by omega, by omega, Lib.hid rfl, Lib.hid (fun j h1 h2 => by omega), rfl⟩
    case round =>
      obtain ⟨k, C, rfl, rfl, k1, k2, c1, c2, c3, c4, HA, HK, rfl⟩ := hrel
      by_cases hk : k < 4
      · have hkS : k < S.size := by omega
        have hkSi : (k : Int) < (S.size : Int) := by omega
        have i1 : decide ((k : Int) < 4) = true := decide_eq_true (by omega)
        have hCi : (C : Int) ≤ 270000 := by have := c3 (by omega); omega
        have hki : (k : Int) ≤ 4 := by omega
        have HBk := Lib.hid (HBT.out k hkS)
        have HBD := Lib.hid (HBAD.out k k1 hk)
        obtain ⟨Y, hY⟩ : ∃ Y, S[k].toNat = Y := ⟨_, rfl⟩
        rw [hY] at HBk
        have hY256 : Y < 256 := by rw [← hY]; exact UInt8.toNat_lt _
        have hYi : (Y : Int) < 256 := by omega
        by_cases y1 : Y < 128
        · have HG := Lib.hid (HBD.out (by rw [HBk.out, Bool.eq_false_iff, ne_eq, Mt.contN_iff]; omega))
          have q1 : decide ((Y : Int) < 128) = true := decide_eq_true (by omega)
          clear y1 c1 c2 c3 HBD HBAD HGD
          go_wp2_with fail
          go_ret
          exact ⟨by rw [HG.out]; rfl, rfl⟩
        have q1 : decide ((Y : Int) < 128) = false := decide_eq_false (by omega)
        by_cases y2 : 192 ≤ Y
        · have HG := Lib.hid (HBD.out (by rw [HBk.out, Bool.eq_false_iff, ne_eq, Mt.contN_iff]; omega))
          have q2 : decide ((192 : Int) ≤ (Y : Int)) = true := decide_eq_true (by omega)
          clear y1 y2 c1 c2 c3 HBD HBAD HGD
          go_wp2_with fail
          go_ret
          exact ⟨by rw [HG.out]; rfl, rfl⟩
        have q2 : decide ((192 : Int) ≤ (Y : Int)) = false := decide_eq_false (by omega)
        have HN := Lib.hid (And.intro y1 y2)
        have HCC := Lib.hid (And.intro c1 (And.intro c2 c3))
        have HC2 : Hid (C * 64 + (Y - 128) = Mt.accU L (X - 240) k) := Lib.hid (by
          obtain ⟨k', rfl⟩ : ∃ k', k = k' + 1 := ⟨k - 1, by omega⟩
          show _ = Mt.accU L (X - 240) k' * 64 + (Mt.bt L (k' + 1) - 128)
          rw [HBk.out, HA.out]; rfl)
        have hC0 : (0 : Int) ≤ (C : Int) := by omega
        have hY0 : (128 : Int) ≤ (Y : Int) := by omega
        clear y1 y2 c1 c2 c3
        go_wp2_with fail
        go_roundw
        case rel =>
          obtain ⟨c1, c2, c3⟩ := HCC.out
          obtain ⟨y1, y2⟩ := HN.out
          refine ⟨k + 1, C * 64 + (Y - 128), rfl, by first | (congr 1; omega) | (simp; omega), by omega, by omega, fun _ => by omega, fun h => ?_, fun h => ?_, ?_, Lib.hid HC2.out, Lib.hid (fun j h1 h2 => ?_), trivial⟩
          · have := c1 (by omega); omega
          · have := c2 (by omega); omega
          · have := c3 (by omega); omega
          · by_cases hj : j = k
            · subst hj; rw [HBk.out, Mt.contN_iff]; omega
            · exact HK.out j h1 (by omega)
        case measure => show 4 - (((k + 1 : Nat) : Int)).toNat < 4 - ((k : Nat) : Int).toNat; omega
      · obtain rfl : k = 4 := by omega
        have hCi : (C : Int) ≤ 20000000 := by omega
        have hC0 : (0 : Int) ≤ (C : Int) := by omega
        have h44 := c4
        clear c1 c2 c3
        by_cases g : C < 65536
        · have HG := Lib.hid (show Z = false by rw [HGD.out HK.out C HA.out, if_neg (by omega)])
          clear HGD HBAD
          have q1 : decide ((C : Int) < 65536) = true := decide_eq_true (by omega)
          go_wp2_with fail
          go_ret
          exact ⟨by rw [HG.out]; rfl, rfl⟩
        · have q1 : decide ((C : Int) < 65536) = false := decide_eq_false (by omega)
          by_cases g2 : 1114111 < C
          · have HG := Lib.hid (show Z = false by rw [HGD.out HK.out C HA.out, if_neg (by omega)])
            clear HGD HBAD
            have q2 : decide ((1114111 : Int) < (C : Int)) = true := decide_eq_true (by omega)
            go_wp2_with fail
            go_ret
            exact ⟨by rw [HG.out]; rfl, rfl⟩
          · have HG := Lib.hid (show Z = validD (L.drop 4) by rw [HGD.out HK.out C HA.out, if_pos (by omega)])
            clear HGD HBAD
            have q2 : decide ((1114111 : Int) < (C : Int)) = false := decide_eq_false (by omega)
            have q3 : decide ((55296 : Int) ≤ (C : Int)) = true := decide_eq_true (by omega)
            have q4 : decide ((C : Int) < 57344) = false := decide_eq_false (by omega)
            go_wp2_with fail
            go_roundw
            case rel => exact ⟨S.extract 4 S.size, rfl, Lib.hid (by rw [HEX.out 4 (by omega), ← HG.out]), by rw [HES.out]; omega, trivial⟩
            case measure => show (S.extract 4 S.size).size < S.size; rw [HES.out]; omega
end Go.Proofs.YtdfpnhdamkogcaaGreatDoor
