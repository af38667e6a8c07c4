/-
  Some texts of one proof, one behind the other.
-/
import Derived.Test.YtngdbhncafnliaaGreatPk7
import Derived.Test.YtngdbhncafnliaaGreatPk12
import Derived.Test.YtngdbhncafnliaaGreatPk18
set_option linter.unusedVariables false
set_option linter.unusedSimpArgs false

/-
  What the document's in, Type and has come to.
-/
namespace Go.Proofs.YtngdbhncafnliaaGreat
open Go.RowKit

theorem rin_any (c : UInt8) (s : ByteArray) (w : World) (hs : s.size ≤ 1000) :
    Calls Tryz.prog 65 #[.int .u8 c.toNat, .string s] w fun e w' => e = .returned (.bool (decide (c ∈ s.data.toList))) ∧ w = w' := by
  obtain ⟨Z, hZ⟩ : ∃ Z, decide (c ∈ s.data.toList) = Z := ⟨_, rfl⟩
  have HY : Hid (∀ j (h : j < s.size), (s[j].toNat : Int) = c.toNat → Z = true) := Lib.hid (by
    intro j h e
    rw [← hZ]; simp only [decide_eq_true_eq]
    have : s[j] = c := Mt.u8_ext (by omega)
    rw [← this]; exact List.getElem_mem (l := s.data.toList) (by simpa using h))
  have HN : Hid ((∀ j (h : j < s.size), (s[j].toNat : Int) ≠ c.toNat) → Z = false) := Lib.hid (by
    intro h
    rw [← hZ]; simp only [decide_eq_false_iff_not]
    intro hm
    obtain ⟨j, hj, e⟩ := List.mem_iff_getElem.1 hm
    have e2 : s[j]'(by simpa using hj) = c := e
    exact h j (by simpa using hj) (by rw [e2]))
  rw [hZ]
  clear hZ
  generalize (c.toNat : Int) = x at *
  go_enter Tryz.func65, Tryz.ntmps65
  go_wp2_with fail
  go_loop [5] (fun i => ∃ k : Nat, k ≤ s.size ∧ i = .int .i64 k ∧ Hid (∀ j (h : j < s.size), j < k → (s[j].toNat : Int) ≠ x))
    (fun i => s.size - (intOf i).toNat)
  case atStart => exact ⟨0, Nat.zero_le _, rfl, Lib.hid fun j _ h => absurd h (Nat.not_lt_zero _)⟩
  case round =>
    obtain ⟨k, hk, rfl, HO⟩ := hrel
    by_cases hlt : k < s.size
    · obtain ⟨z, hz⟩ : ∃ z, ((s[k].toNat : Int) == x) = z := ⟨_, rfl⟩
      cases z
      · have HO2 : Hid (∀ j (h : j < s.size), j < k + 1 → (s[j].toNat : Int) ≠ x) := Lib.hid (by
          intro j h h2
          by_cases e : j = k
          · subst e; simpa using hz
          · exact HO.out j h (by omega))
        go_wp2_with fail
        go_round
        case rel => exact ⟨k + 1, by omega, by go_num, HO2⟩
        case measure => simp [intOf]; omega
      · have HF := Lib.hid (HY.out k hlt (by simpa using hz))
        go_wp2_with fail
        go_ret
        exact ⟨Mt.ret_bool HF.out.symm, rfl⟩
    · have HF := Lib.hid (HN.out fun j h => HO.out j h (by omega))
      go_wp2_with fail
      go_ret
      exact ⟨Mt.ret_bool HF.out.symm, rfl⟩
theorem Mt.in_let : ∀ n : Fin 256, decide (Mt.sm (UInt8.ofNat n) ∈ [97, 98, 99, 100, 101, 102, 103, 104, 105, 106, 107, 108, 109, 110, 111, 112, 113, 114, 115, 116, 117, 118, 119, 120, 121, 122]) = Mt.letN n := by decide +kernel
theorem Mt.in_dig : ∀ n : Fin 256, decide (Mt.sm (UInt8.ofNat n) ∈ [48, 49, 50, 51, 52, 53, 54, 55, 56, 57, 45]) = (Mt.digN n || decide ((n : Nat) = 45)) := by decide +kernel

set_option maxRecDepth 100000 in
set_option maxHeartbeats 1000000 in
theorem rtype_any (s : ByteArray) (w : World) (hs : s.size ≤ 140737488351232) :
    Calls Tryz.prog 42 #[.string s] w fun e w' => e = .returned (.bool (Mt.typL s.data.toList)) ∧ Below w.heap.size w w' := by
  have HF := Lib.hid (rfold_any s w hs)
  obtain ⟨t, ht⟩ : ∃ t, Mt.str (s.data.toList.map Mt.sm) = t := ⟨_, rfl⟩
  have hts : t.size = s.size := by rw [← ht, Mt.str_size, List.length_map]; rfl
  have HT : Hid (∀ j (h : j < t.size) (h2 : j < s.size), t[j] = Mt.sm s[j]) := Lib.hid (by
    intro j h h2
    subst ht
    show (s.data.toList.map Mt.sm)[j]'(by simpa using h2) = _
    rw [List.getElem_map]; rfl)
  rw [ht] at HF
  clear ht
  obtain ⟨Z, hZ⟩ : ∃ Z, Mt.typL s.data.toList = Z := ⟨_, rfl⟩
  have HY : Hid ((1 ≤ t.size ∧ t.size ≤ 32) → (∀ j (h : j < s.size), Mt.okAt s j h = true) → Z = true) := Lib.hid (by
    intro h1 h2; rw [← hZ]; exact Mt.typ_yes s (by omega) (by omega) h2)
  have HN : Hid (∀ j (h : j < s.size), Mt.okAt s j h = false → Z = false) := Lib.hid (by
    intro j h h2; rw [← hZ]; exact Mt.typ_no s j h h2)
  have HN2 : Hid (¬ (1 ≤ t.size ∧ t.size ≤ 32) → Z = false) := Lib.hid (by
    intro h; rw [← hZ]
    cases h2 : Mt.typL s.data.toList with
    | false => rfl
    | true =>
      exfalso
      have h3 := Mt.typ_len h2
      have h4 : s.data.toList.length = s.size := rfl
      rcases Nat.eq_zero_or_pos s.size with h0 | h0
      · have : s.data.toList = [] := List.eq_nil_of_length_eq_zero (by omega)
        rw [this] at h2; cases h2
      · omega)
  have HSZ := Lib.hid hts
  rw [hZ]
  clear hZ hts
  go_enter Tryz.func42, Tryz.ntmps42
  go_wp2_with fail
  refine (HF.out).mono ?_
  rintro e w1 ⟨rfl, hb⟩
  have HB := Lib.hid hb
  clear hb
  obtain ⟨b1, h1⟩ : ∃ b, decide ((1 : Int) ≤ (t.size : Int)) = b := ⟨_, rfl⟩
  obtain ⟨b2, h2⟩ : ∃ b, decide ((t.size : Int) ≤ 32) = b := ⟨_, rfl⟩
  have HB12 : Hid ((1 ≤ t.size ∧ t.size ≤ 32) ↔ (b1 && b2) = true) := Lib.hid (by
    rw [← h1, ← h2]; simp only [Bool.and_eq_true, decide_eq_true_eq]; omega)
  have hsz : t.size ≤ 140737488351232 := by have := HSZ.out; omega
  have HLOOP : ∀ b, (b1 && b2) = b → Hid ((1 ≤ t.size ∧ t.size ≤ 32) ↔ b = true) := fun b hb => Lib.hid (by rw [← hb]; exact HB12.out)
  cases b1 <;> cases b2
  all_goals
    have HL := HLOOP _ rfl
    go_wp2_with fail
    clear h1 h2 HB12 HLOOP
    go_loop [4, 5] (fun l i => ∃ (k : Nat) (L : Bool), k ≤ t.size ∧ i = .int .i64 k ∧ l = .bool L ∧ Hid (L = true → (1 ≤ t.size ∧ t.size ≤ 32) ∧ ∀ j (h : j < s.size), j < k → Mt.okAt s j h = true) ∧ Hid (L = false → Z = false))
      (fun _ i => t.size - (intOf i).toNat)
    case atStart => exact ⟨0, _, Nat.zero_le _, rfl, rfl, Lib.hid (fun h => ⟨HL.out.2 h, fun j _ h => absurd h (Nat.not_lt_zero _)⟩), Lib.hid (fun h => by first | exact absurd h (by decide) | exact HN2.out (fun h2 => by have := HL.out.1 h2; cases this))⟩
    case round =>
      obtain ⟨k, L, hk, rfl, rfl, HYL, HNL⟩ := hrel
      by_cases hlt : k < t.size
      · cases L
        · go_wp2_with fail
          go_ret
          exact ⟨Mt.ret_bool (HNL.out (by first | rfl | trivial)).symm, HB.out⟩
        · have hks : k < s.size := by have := HSZ.out; omega
          obtain ⟨c, hc⟩ : ∃ c, s[k] = c := ⟨_, rfl⟩
          have hk2 : t[k] = Mt.sm c := by rw [HT.out k hlt hks, hc]
          have i1 := Mt.in_let ⟨c.toNat, c.toNat_lt⟩
          have i2 := Mt.in_dig ⟨c.toNat, c.toNat_lt⟩
          simp only [UInt8.ofNat_toNat] at i1 i2
          have V1 := Lib.hid (fun u => rin_any (Mt.sm c) ⟨#[97, 98, 99, 100, 101, 102, 103, 104, 105, 106, 107, 108, 109, 110, 111, 112, 113, 114, 115, 116, 117, 118, 119, 120, 121, 122]⟩ u (by simp [ByteArray.size]))
          have V2 := Lib.hid (fun u => rin_any (Mt.sm c) ⟨#[48, 49, 50, 51, 52, 53, 54, 55, 56, 57, 45]⟩ u (by simp [ByteArray.size]))
          have e1 : (⟨#[97, 98, 99, 100, 101, 102, 103, 104, 105, 106, 107, 108, 109, 110, 111, 112, 113, 114, 115, 116, 117, 118, 119, 120, 121, 122]⟩ : ByteArray).data.toList = [97, 98, 99, 100, 101, 102, 103, 104, 105, 106, 107, 108, 109, 110, 111, 112, 113, 114, 115, 116, 117, 118, 119, 120, 121, 122] := rfl
          have e2 : (⟨#[48, 49, 50, 51, 52, 53, 54, 55, 56, 57, 45]⟩ : ByteArray).data.toList = [48, 49, 50, 51, 52, 53, 54, 55, 56, 57, 45] := rfl
          rw [e1, i1] at V1
          rw [e2, i2] at V2
          obtain ⟨z1, h1⟩ : ∃ z, Mt.letN c.toNat = z := ⟨_, rfl⟩
          obtain ⟨z2, h2⟩ : ∃ z, (Mt.digN c.toNat || decide (c.toNat = 45)) = z := ⟨_, rfl⟩
          obtain ⟨z3, h3⟩ : ∃ z, decide ((0 : Int) < (k : Int)) = z := ⟨_, rfl⟩
          have h3' : decide (0 < k) = z3 := by rw [← h3, Bool.eq_iff_iff]; simp
          have HOK : Hid (Mt.okAt s k hks = (z1 || (z3 && z2))) := Lib.hid (by rw [← h1, ← h2, ← h3', ← hc]; rfl)
          rw [h1] at V1
          rw [h2] at V2
          have HSTEP : Hid (∀ L2 : Bool, (z1 || (z3 && z2)) = L2 → (L2 = true → (1 ≤ t.size ∧ t.size ≤ 32) ∧ ∀ j (h : j < s.size), j < k + 1 → Mt.okAt s j h = true) ∧ (L2 = false → Z = false)) := Lib.hid (by
            intro L2 h
            refine ⟨fun h4 => ⟨(HYL.out rfl).1, fun j hj hlt2 => ?_⟩, fun h4 => HN.out k hks (by rw [HOK.out, h, h4])⟩
            by_cases e : j = k
            · subst e; rw [HOK.out, h, h4]
            · exact (HYL.out rfl).2 j hj (by omega))
          clear e1 e2 i1 i2 h1 h2 hc
          generalize Mt.sm c = q at *
          have HS2 := Lib.hid (HSTEP.out _ rfl)
          clear HSTEP
          cases z1
          · cases z3
            ·
              go_wp2_with fail
              refine (V1.out _).mono ?_
              rintro e w' ⟨rfl, rfl⟩
              go_wp2_with fail
              exact ⟨⟨k + 1, false, by omega, by go_num, rfl, Lib.hid (fun h => by cases h), Lib.hid (fun _ => HS2.out.2 rfl)⟩, by simp [intOf]; omega⟩
            · cases z2
              ·
                go_wp2_with fail
                refine (V1.out _).mono ?_
                rintro e w' ⟨rfl, rfl⟩
                go_wp2_with fail
                refine (V2.out _).mono ?_
                rintro e w' ⟨rfl, rfl⟩
                go_wp2_with fail
                exact ⟨⟨k + 1, false, by omega, by go_num, rfl, Lib.hid (fun h => by cases h), Lib.hid (fun _ => HS2.out.2 rfl)⟩, by simp [intOf]; omega⟩
              ·
                go_wp2_with fail
                refine (V1.out _).mono ?_
                rintro e w' ⟨rfl, rfl⟩
                go_wp2_with fail
                refine (V2.out _).mono ?_
                rintro e w' ⟨rfl, rfl⟩
                go_wp2_with fail
                exact ⟨⟨k + 1, true, by omega, by go_num, rfl, Lib.hid (fun _ => HS2.out.1 rfl), Lib.hid (fun h => by cases h)⟩, by simp [intOf]; omega⟩
          ·
            go_wp2_with fail
            refine (V1.out _).mono ?_
            rintro e w' ⟨rfl, rfl⟩
            go_wp2_with fail
            exact ⟨⟨k + 1, true, by omega, by go_num, rfl, Lib.hid (fun _ => HS2.out.1 rfl), Lib.hid (fun h => by cases h)⟩, by simp [intOf]; omega⟩
      · cases L
        · go_wp2_with fail
          go_ret
          exact ⟨Mt.ret_bool (HNL.out (by first | rfl | trivial)).symm, HB.out⟩
        · have HF2 := Lib.hid (HY.out (HYL.out (by first | rfl | trivial)).1 (fun j h => (HYL.out (by first | rfl | trivial)).2 j h (by have := HSZ.out; omega)))
          go_wp2_with fail
          go_ret
          exact ⟨Mt.ret_bool HF2.out.symm, HB.out⟩
end Go.Proofs.YtngdbhncafnliaaGreat

/-
  What the document's has comes to.
-/
namespace Go.Proofs.YtngdbhncafnliaaGreat
open Go.RowKit

set_option maxRecDepth 100000 in
set_option maxHeartbeats 1000000 in
theorem rhas_any {w : World} {v : Value} {r : List Mt.Av} (hv : IsAvs w v r) (t : ByteArray) (ht : t.size ≤ 140737488351232) (hr : ∀ a ∈ r, a.1.length ≤ 140737488351232) :
    Calls Tryz.prog 43 #[v, .string t] w fun e w' => e = .returned (.bool (Mt.hasL r t.data.toList)) ∧ Below w.heap.size w w' := by
  have HV := Lib.hid hv
  obtain ⟨a, cap, rfl, hn, hcap, _⟩ := hv
  have HX := Lib.hid (HV.out.row)
  obtain ⟨Z, hZ⟩ : ∃ Z, Mt.hasL r t.data.toList = Z := ⟨_, rfl⟩
  have HY : Hid (∀ j (h : j < r.length), decide (Mt.foldL r[j].1 = Mt.foldL t.data.toList) = true → Z = true) := Lib.hid (by
    intro j h e; rw [← hZ]; unfold Mt.hasL; rw [List.any_eq_true]; exact ⟨_, List.getElem_mem h, e⟩)
  have HN : Hid ((∀ j (h : j < r.length), decide (Mt.foldL r[j].1 = Mt.foldL t.data.toList) = false) → Z = false) := Lib.hid (by
    intro h; rw [← hZ]; unfold Mt.hasL; rw [List.any_eq_false]
    intro x hx
    obtain ⟨j, hj, rfl⟩ := List.mem_iff_getElem.1 hx
    have := h j hj; simpa using this)
  have HR := Lib.hid hr
  have HF2 := Lib.hid (fun u => rfold_any t u ht)
  obtain ⟨T, hT⟩ : ∃ T, Mt.str (t.data.toList.map Mt.sm) = T := ⟨_, rfl⟩
  have HTT : Hid (∀ x : List UInt8, decide (Mt.foldL x = Mt.foldL t.data.toList) = ((Mt.str (Mt.foldL x)).toList == T.toList)) := Lib.hid (by
    intro x
    rw [Mt.beq_dec, ← hT, Bool.eq_iff_iff]; simp only [decide_eq_true_eq]
    exact ⟨fun h => by rw [h]; rfl, fun h => by rw [← Mt.str_data (Mt.foldL x), h]; rfl⟩)
  rw [hT] at HF2
  rw [hZ]
  clear hr hZ hT ht HV
  go_enter Tryz.func43, Tryz.ntmps43
  go_wp2_with fail
  go_loopw [9] (fun i wr => ∃ k : Nat, k ≤ r.length ∧ i = .int .i64 k ∧ Hid (∀ j (h : j < r.length), j < k → decide (Mt.foldL r[j].1 = Mt.foldL t.data.toList) = false) ∧ Hid (Below w.heap.size w wr))
    (fun i _ => r.length - (intOf i).toNat)
  case atStart => exact ⟨0, Nat.zero_le _, rfl, Lib.hid fun j _ h => absurd h (Nat.not_lt_zero _), Lib.hid (Below.refl _ _)⟩
  case round =>
    obtain ⟨k, hk, rfl, HO, HB⟩ := hrel
    by_cases hlt : k < r.length
    · obtain ⟨b, off, rfl, hload⟩ := HX.out k hlt
      obtain ⟨hl0, hl1⟩ := hload wr HB.out
      have HF1 := Lib.hid (fun u => rfold_any (Mt.str r[k].1) u (by rw [Mt.str_size]; exact HR.out _ (List.getElem_mem hlt)))
      rw [Mt.str_data] at HF1
      have HZ := Lib.hid (HTT.out r[k].1)
      obtain ⟨A, hA⟩ : ∃ A, Mt.str (Mt.foldL r[k].1) = A := ⟨_, rfl⟩
      have hA' : Mt.str (List.map Mt.sm r[k].1) = A := hA
      rw [hA'] at HF1
      obtain ⟨z, hz⟩ : ∃ z, (A.toList == T.toList) = z := ⟨_, rfl⟩
      have HQ : Hid (decide (Mt.foldL r[k].1 = Mt.foldL t.data.toList) = z) := Lib.hid (by rw [HZ.out, hA, hz])
      have hb0 := (Below.refl wr.heap.size wr).alloc (Nat.le_refl _) (.cells #[.string (Mt.str r[k].1), .string (Mt.str r[k].2)] 87)
      have HBx := Lib.hid (HB.out.trans (hb0.mono HB.out.size))
      obtain ⟨p1, p2⟩ := box2_of (heap_alloc_new wr (.cells #[.string (Mt.str r[k].1), .string (Mt.str r[k].2)] 87))
      clear hb0 hload HZ hA hA'
      go_wp2_with fail
      refine (HF1.out _).mono ?_
      rintro e w2 ⟨rfl, hb⟩
      have HB2 := Lib.hid (HBx.out.trans (hb.mono HBx.out.size))
      clear hb
      go_wp2_with fail
      refine (HF2.out _).mono ?_
      rintro e w3 ⟨rfl, hb⟩
      have HB3 := Lib.hid (HB2.out.trans (hb.mono HB2.out.size))
      clear hb
      cases z
      · have HO2 : Hid (∀ j (h : j < r.length), j < k + 1 → decide (Mt.foldL r[j].1 = Mt.foldL t.data.toList) = false) := Lib.hid (by
          intro j h h2
          by_cases e : j = k
          · subst e; exact HQ.out
          · exact HO.out j h (by omega))
        go_wp2_with fail
        go_roundw
        case rel => exact ⟨k + 1, by omega, by go_num, HO2, HB3⟩
        case measure => simp [intOf]; omega
      · have HF := Lib.hid (HY.out k hlt HQ.out)
        go_wp2_with fail
        go_ret
        exact ⟨Mt.ret_bool HF.out.symm, HB3.out⟩
    · have HF := Lib.hid (HN.out fun j h => HO.out j h (by omega))
      go_wp2_with fail
      go_ret
      exact ⟨Mt.ret_bool HF.out.symm, HB.out⟩
end Go.Proofs.YtngdbhncafnliaaGreat
