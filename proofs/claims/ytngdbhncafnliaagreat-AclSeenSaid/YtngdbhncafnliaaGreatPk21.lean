/-
  Some texts of one proof, one behind the other.
-/
import Derived.Test.YtngdbhncafnliaaGreatPk19
import Derived.Test.YtngdbhncafnliaaGreatPk20
set_option linter.unusedVariables false
set_option linter.unusedSimpArgs false

/-
  What the document's written comes to.
-/
namespace Go.Proofs.YtngdbhncafnliaaGreat
open Go.RowKit

theorem Mt.in_w : ∀ n : Fin 256, decide (UInt8.ofNat n ∈ [34, 43, 44, 59, 60, 62, 92]) = decide ((n : Nat) = 34 ∨ (n : Nat) = 43 ∨ (n : Nat) = 44 ∨ (n : Nat) = 59 ∨ (n : Nat) = 60 ∨ (n : Nat) = 62 ∨ (n : Nat) = 92) := by decide +kernel
theorem Mt.in_w2 : ∀ n : Fin 256, decide (UInt8.ofNat n ∈ [32, 35]) = decide ((n : Nat) = 32 ∨ (n : Nat) = 35) := by decide +kernel
theorem Mt.guard_parts (n : Nat) (h0 : n ≠ 0) (f l : Bool) : Mt.guardN n f l = (decide (n = 34 ∨ n = 43 ∨ n = 44 ∨ n = 59 ∨ n = 60 ∨ n = 62 ∨ n = 92) || (f && decide (n = 32 ∨ n = 35)) || (l && decide (n = 32))) := by
  unfold Mt.guardN
  rw [Bool.eq_iff_iff]
  simp only [Bool.or_eq_true, Bool.and_eq_true, decide_eq_true_eq]
  constructor
  · rintro ((h | ⟨h, h2 | h2⟩) | ⟨h, h2⟩)
    · left; left; omega
    · left; right; exact ⟨h2, .inl h⟩
    · right; exact ⟨h2, h⟩
    · left; right; exact ⟨h2, .inr h⟩
  · rintro ((h | ⟨h, h2 | h2⟩) | ⟨h, h2⟩)
    · left; left; omega
    · left; right; exact ⟨h2, .inl h⟩
    · right; exact ⟨h2, h⟩
    · left; right; exact ⟨h2, .inr h⟩

set_option maxRecDepth 100000 in
set_option maxHeartbeats 4000000 in
theorem rwritten_any (s : ByteArray) (w : World) (hs : s.size ≤ 1099511627776) :
    Calls Tryz.prog 66 #[.string s] w fun e w' => e = .returned (.string (Mt.str (Mt.wrL s.data.toList))) ∧ Below w.heap.size w w' := by
  obtain ⟨i0, hi, hz0, hz1, hz2⟩ := info_parts Tryz.infoU8
  have HI := Lib.hid (And.intro hi (And.intro hz0 (And.intro hz1 hz2)))
  clear hi hz0 hz1 hz2
  have hl : s.data.toList.length = s.size := rfl
  have HL := Lib.hid hl
  have HS := Lib.hid hs
  clear hl
  go_enter Tryz.func66, Tryz.ntmps66
  go_wp2_with fail
  go_loopw [3, 4] (fun v i wr => ∃ (k : Nat) (o : List UInt8) (a : Option Addr) (c : Nat), i = .int .i64 k ∧ v = .slice a o.length c ∧ Hid (IsOwn 5 1 w.heap.size wr (.slice a o.length c) o.length (Mt.cs o)) ∧ k ≤ s.size ∧ o.length ≤ 3 * k ∧ Hid (o ++ Mt.wrF (decide (k = 0)) (s.data.toList.drop k) = Mt.wrL s.data.toList) ∧ Hid (Below w.heap.size w wr))
    (fun _ i _ => s.size - (intOf i).toNat)
  case atStart => exact ⟨0, [], none, 0, rfl, rfl, Lib.hid (IsOwn.nil _ _ _ _), Nat.zero_le _, by simp, Lib.hid rfl, Lib.hid (Below.refl _ _)⟩
  case round =>
    obtain ⟨k, o, a, c, rfl, rfl, HO, hk, ho, HE, HB⟩ := hrel
    by_cases hlt : k < s.size
    · obtain ⟨b, hb⟩ : ∃ b, s[k] = b := ⟨_, rfl⟩
      have hdr := Mt.drop_cons s k hlt
      rw [hb] at hdr
      obtain ⟨z1, h1⟩ : ∃ z, ((k : Int) == 0) = z := ⟨_, rfl⟩
      have h1' : decide (k = 0) = z1 := by rw [← h1, Bool.eq_iff_iff]; simp
      obtain ⟨z2, h2⟩ : ∃ z, ((k : Int) + 1 == (s.size : Int)) = z := ⟨_, rfl⟩
      have h2' : (s.data.toList.drop (k + 1)).isEmpty = z2 := by
        rw [← h2, Bool.eq_iff_iff]
        simp only [List.isEmpty_iff, List.drop_eq_nil_iff, HL.out, beq_iff_eq]; omega
      obtain ⟨z3, h3⟩ : ∃ z, ((b.toNat : Int) == 0) = z := ⟨_, rfl⟩
      have h3' : decide (b = 0) = z3 := by
        rw [← h3, Bool.eq_iff_iff]; simp only [decide_eq_true_eq, beq_iff_eq]
        exact ⟨fun e => by rw [e]; rfl, fun e => Mt.u8_ext (by show b.toNat = 0; omega)⟩
      obtain ⟨z5, h5⟩ : ∃ z, ((b.toNat : Int) == 32) = z := ⟨_, rfl⟩
      have h5' : decide (b.toNat = 32) = z5 := by rw [← h5, Bool.eq_iff_iff]; simp; omega
      have i1 := Mt.in_w ⟨b.toNat, b.toNat_lt⟩
      have i2 := Mt.in_w2 ⟨b.toNat, b.toNat_lt⟩
      simp only [UInt8.ofNat_toNat] at i1 i2
      have V1 := Lib.hid (fun u => rin_any b ⟨#[34, 43, 44, 59, 60, 62, 92]⟩ u (by simp [ByteArray.size]))
      have V2 := Lib.hid (fun u => rin_any b ⟨#[32, 35]⟩ u (by simp [ByteArray.size]))
      have e1 : (⟨#[34, 43, 44, 59, 60, 62, 92]⟩ : ByteArray).data.toList = [34, 43, 44, 59, 60, 62, 92] := rfl
      have e2 : (⟨#[32, 35]⟩ : ByteArray).data.toList = [32, 35] := rfl
      rw [e1, i1] at V1
      rw [e2, i2] at V2
      obtain ⟨z6, h6⟩ : ∃ z, decide (b.toNat = 34 ∨ b.toNat = 43 ∨ b.toNat = 44 ∨ b.toNat = 59 ∨ b.toNat = 60 ∨ b.toNat = 62 ∨ b.toNat = 92) = z := ⟨_, rfl⟩
      obtain ⟨z7, h7⟩ : ∃ z, decide (b.toNat = 32 ∨ b.toNat = 35) = z := ⟨_, rfl⟩
      rw [h6] at V1
      rw [h7] at V2
      have H57 : Hid (z5 = true → z7 = true) := Lib.hid (by rw [← h5', ← h7]; simp only [decide_eq_true_eq]; exact Or.inl)
      have HE2 : Hid ((o ++ (if z3 then [92, 48, 48] else if (z6 || (z1 && z7) || (z2 && z5)) then [92, b] else [b])) ++ Mt.wrF false (s.data.toList.drop (k + 1)) = Mt.wrL s.data.toList) := Lib.hid (by
        rw [← HE.out, hdr, ← h3']
        simp only [Mt.wrF, h1', h2', List.append_assoc, decide_eq_true_eq]
        by_cases h0 : b = 0
        · rw [if_pos h0, if_pos h0]
        · rw [if_neg h0, if_neg h0, Mt.guard_parts b.toNat (fun e => h0 (Mt.u8_ext e)) z1 z2, h6, h7, h5'])
      have hk0 : Hid (decide (k + 1 = 0) = false) := Lib.hid (by simp)
      have HN := Lib.hid (And.intro hlt ho)
      clear hdr h1' h2' h3' h5' h6 h7 i1 i2 e1 e2 HE hk ho
      cases z3
      · cases z6
        · cases z1
          · cases z2
            · go_wp2_with fail
              refine (V1.out _).mono ?_
              rintro x wx ⟨rfl, rfl⟩
              obtain ⟨a3, c3, w3, hrun, hown, hb3⟩ := own_push (T := 114) (tx := 114) Tryz.underlying114 Tryz.underlying114 HI.out.1 HI.out.2.1 HI.out.2.2.1 HI.out.2.2.2 rfl HO.out HB.out.size (Mt.cs_one _) #[.int .u8 (b.toNat : Int)] rfl (by simp [Value.oneCell']) (by have := HN.out; have := HS.out; omega) (by have := HN.out; have := HS.out; omega)
              have HO3 := Lib.hid hown
              have HB3 := Lib.hid (HB.out.trans hb3)
              clear hown hb3
              go_wp2_with (refine wpList_append_run rfl _ _ 114 114 rfl _ _ rfl rfl hrun ?_)
              go_roundw
              case rel => exact ⟨k + 1, o ++ [b], a3, c3, by go_num, by rw [List.length_append]; rfl, by rw [List.length_append, Mt.cs_append]; exact HO3, by have := HN.out; omega, by have := HN.out; rw [List.length_append, List.length_singleton]; omega, by rw [hk0.out]; exact HE2, HB3⟩
              case measure => simp [intOf]; have := HN.out; omega
            · cases z5
              · go_wp2_with fail
                refine (V1.out _).mono ?_
                rintro x wx ⟨rfl, rfl⟩
                obtain ⟨a3, c3, w3, hrun, hown, hb3⟩ := own_push (T := 114) (tx := 114) Tryz.underlying114 Tryz.underlying114 HI.out.1 HI.out.2.1 HI.out.2.2.1 HI.out.2.2.2 rfl HO.out HB.out.size (Mt.cs_one _) #[.int .u8 (b.toNat : Int)] rfl (by simp [Value.oneCell']) (by have := HN.out; have := HS.out; omega) (by have := HN.out; have := HS.out; omega)
                have HO3 := Lib.hid hown
                have HB3 := Lib.hid (HB.out.trans hb3)
                clear hown hb3
                go_wp2_with (refine wpList_append_run rfl _ _ 114 114 rfl _ _ rfl rfl hrun ?_)
                go_roundw
                case rel => exact ⟨k + 1, o ++ [b], a3, c3, by go_num, by rw [List.length_append]; rfl, by rw [List.length_append, Mt.cs_append]; exact HO3, by have := HN.out; omega, by have := HN.out; rw [List.length_append, List.length_singleton]; omega, by rw [hk0.out]; exact HE2, HB3⟩
                case measure => simp [intOf]; have := HN.out; omega
              · go_wp2_with fail
                refine (V1.out _).mono ?_
                rintro x wx ⟨rfl, rfl⟩
                obtain ⟨a2, c2, w2, hrun2, hown2, hb2⟩ := own_push (T := 114) (tx := 114) Tryz.underlying114 Tryz.underlying114 HI.out.1 HI.out.2.1 HI.out.2.2.1 HI.out.2.2.2 rfl HO.out HB.out.size (Mt.cs_one _) #[.int .u8 92] rfl (by simp [Value.oneCell']) (by have := HN.out; have := HS.out; omega) (by have := HN.out; have := HS.out; omega)
                have HB2 := Lib.hid (HB.out.trans hb2)
                have HO2 : Hid (IsOwn 5 1 w.heap.size w2 (.slice a2 (o.length + 1) c2) (o.length + 1) (Mt.cs (o ++ [92]))) := Lib.hid (by rw [Mt.cs_append]; exact hown2)
                have HQ := Lib.hid (own_push (T := 114) (tx := 114) Tryz.underlying114 Tryz.underlying114 HI.out.1 HI.out.2.1 HI.out.2.2.1 HI.out.2.2.2 rfl HO2.out HB2.out.size (Mt.cs_one _) #[.int .u8 (b.toNat : Int)] rfl (by simp [Value.oneCell']) (by have := HN.out; have := HS.out; omega) (by have := HN.out; have := HS.out; omega))
                have HCS : Hid (Mt.cs (o ++ [92]) ++ (#[Value.int .u8 (b.toNat : Int)] : Array Value).toList = Mt.cs (o ++ [92, b])) := Lib.hid (by rw [show o ++ [92, b] = (o ++ [92]) ++ [b] by simp, Mt.cs_append (o ++ [92])]; rfl)
                clear hown2 hb2
                go_wp2_with (first | (refine wpList_append_run rfl _ _ 114 114 rfl _ _ rfl rfl hrun2 ?_; obtain ⟨a3, c3, w3, hrun, hown, hb3⟩ := HQ.out; rw [HCS.out] at hown; have HO3 := Lib.hid hown; have HB3 := Lib.hid (HB2.out.trans hb3); clear hrun2 hown hb3) | (refine wpList_append_run rfl _ _ 114 114 rfl _ _ rfl rfl hrun ?_))
                go_roundw
                case rel => exact ⟨k + 1, o ++ [92, b], a3, c3, by go_num, by rw [List.length_append]; rfl, by rw [List.length_append]; exact HO3, by have := HN.out; omega, by have := HN.out; rw [List.length_append]; simp; omega, by rw [hk0.out]; exact HE2, HB3⟩
                case measure => simp [intOf]; have := HN.out; omega
          · cases z7
            · cases z5
              · cases z2
                · go_wp2_with fail
                  refine (V1.out _).mono ?_
                  rintro x wx ⟨rfl, rfl⟩
                  go_wp2_with fail
                  refine (V2.out _).mono ?_
                  rintro x wx ⟨rfl, rfl⟩
                  obtain ⟨a3, c3, w3, hrun, hown, hb3⟩ := own_push (T := 114) (tx := 114) Tryz.underlying114 Tryz.underlying114 HI.out.1 HI.out.2.1 HI.out.2.2.1 HI.out.2.2.2 rfl HO.out HB.out.size (Mt.cs_one _) #[.int .u8 (b.toNat : Int)] rfl (by simp [Value.oneCell']) (by have := HN.out; have := HS.out; omega) (by have := HN.out; have := HS.out; omega)
                  have HO3 := Lib.hid hown
                  have HB3 := Lib.hid (HB.out.trans hb3)
                  clear hown hb3
                  go_wp2_with (refine wpList_append_run rfl _ _ 114 114 rfl _ _ rfl rfl hrun ?_)
                  go_roundw
                  case rel => exact ⟨k + 1, o ++ [b], a3, c3, by go_num, by rw [List.length_append]; rfl, by rw [List.length_append, Mt.cs_append]; exact HO3, by have := HN.out; omega, by have := HN.out; rw [List.length_append, List.length_singleton]; omega, by rw [hk0.out]; exact HE2, HB3⟩
                  case measure => simp [intOf]; have := HN.out; omega
                · go_wp2_with fail
                  refine (V1.out _).mono ?_
                  rintro x wx ⟨rfl, rfl⟩
                  go_wp2_with fail
                  refine (V2.out _).mono ?_
                  rintro x wx ⟨rfl, rfl⟩
                  obtain ⟨a3, c3, w3, hrun, hown, hb3⟩ := own_push (T := 114) (tx := 114) Tryz.underlying114 Tryz.underlying114 HI.out.1 HI.out.2.1 HI.out.2.2.1 HI.out.2.2.2 rfl HO.out HB.out.size (Mt.cs_one _) #[.int .u8 (b.toNat : Int)] rfl (by simp [Value.oneCell']) (by have := HN.out; have := HS.out; omega) (by have := HN.out; have := HS.out; omega)
                  have HO3 := Lib.hid hown
                  have HB3 := Lib.hid (HB.out.trans hb3)
                  clear hown hb3
                  go_wp2_with (refine wpList_append_run rfl _ _ 114 114 rfl _ _ rfl rfl hrun ?_)
                  go_roundw
                  case rel => exact ⟨k + 1, o ++ [b], a3, c3, by go_num, by rw [List.length_append]; rfl, by rw [List.length_append, Mt.cs_append]; exact HO3, by have := HN.out; omega, by have := HN.out; rw [List.length_append, List.length_singleton]; omega, by rw [hk0.out]; exact HE2, HB3⟩
                  case measure => simp [intOf]; have := HN.out; omega
              · exact absurd (H57.out rfl) (by simp)
            · go_wp2_with fail
              refine (V1.out _).mono ?_
              rintro x wx ⟨rfl, rfl⟩
              go_wp2_with fail
              refine (V2.out _).mono ?_
              rintro x wx ⟨rfl, rfl⟩
              obtain ⟨a2, c2, w2, hrun2, hown2, hb2⟩ := own_push (T := 114) (tx := 114) Tryz.underlying114 Tryz.underlying114 HI.out.1 HI.out.2.1 HI.out.2.2.1 HI.out.2.2.2 rfl HO.out HB.out.size (Mt.cs_one _) #[.int .u8 92] rfl (by simp [Value.oneCell']) (by have := HN.out; have := HS.out; omega) (by have := HN.out; have := HS.out; omega)
              have HB2 := Lib.hid (HB.out.trans hb2)
              have HO2 : Hid (IsOwn 5 1 w.heap.size w2 (.slice a2 (o.length + 1) c2) (o.length + 1) (Mt.cs (o ++ [92]))) := Lib.hid (by rw [Mt.cs_append]; exact hown2)
              have HQ := Lib.hid (own_push (T := 114) (tx := 114) Tryz.underlying114 Tryz.underlying114 HI.out.1 HI.out.2.1 HI.out.2.2.1 HI.out.2.2.2 rfl HO2.out HB2.out.size (Mt.cs_one _) #[.int .u8 (b.toNat : Int)] rfl (by simp [Value.oneCell']) (by have := HN.out; have := HS.out; omega) (by have := HN.out; have := HS.out; omega))
              have HCS : Hid (Mt.cs (o ++ [92]) ++ (#[Value.int .u8 (b.toNat : Int)] : Array Value).toList = Mt.cs (o ++ [92, b])) := Lib.hid (by rw [show o ++ [92, b] = (o ++ [92]) ++ [b] by simp, Mt.cs_append (o ++ [92])]; rfl)
              clear hown2 hb2
              go_wp2_with (first | (refine wpList_append_run rfl _ _ 114 114 rfl _ _ rfl rfl hrun2 ?_; obtain ⟨a3, c3, w3, hrun, hown, hb3⟩ := HQ.out; rw [HCS.out] at hown; have HO3 := Lib.hid hown; have HB3 := Lib.hid (HB2.out.trans hb3); clear hrun2 hown hb3) | (refine wpList_append_run rfl _ _ 114 114 rfl _ _ rfl rfl hrun ?_))
              go_roundw
              case rel => exact ⟨k + 1, o ++ [92, b], a3, c3, by go_num, by rw [List.length_append]; rfl, by rw [List.length_append]; exact HO3, by have := HN.out; omega, by have := HN.out; rw [List.length_append]; simp; omega, by rw [hk0.out]; exact HE2, HB3⟩
              case measure => simp [intOf]; have := HN.out; omega
        · go_wp2_with fail
          refine (V1.out _).mono ?_
          rintro x wx ⟨rfl, rfl⟩
          obtain ⟨a2, c2, w2, hrun2, hown2, hb2⟩ := own_push (T := 114) (tx := 114) Tryz.underlying114 Tryz.underlying114 HI.out.1 HI.out.2.1 HI.out.2.2.1 HI.out.2.2.2 rfl HO.out HB.out.size (Mt.cs_one _) #[.int .u8 92] rfl (by simp [Value.oneCell']) (by have := HN.out; have := HS.out; omega) (by have := HN.out; have := HS.out; omega)
          have HB2 := Lib.hid (HB.out.trans hb2)
          have HO2 : Hid (IsOwn 5 1 w.heap.size w2 (.slice a2 (o.length + 1) c2) (o.length + 1) (Mt.cs (o ++ [92]))) := Lib.hid (by rw [Mt.cs_append]; exact hown2)
          have HQ := Lib.hid (own_push (T := 114) (tx := 114) Tryz.underlying114 Tryz.underlying114 HI.out.1 HI.out.2.1 HI.out.2.2.1 HI.out.2.2.2 rfl HO2.out HB2.out.size (Mt.cs_one _) #[.int .u8 (b.toNat : Int)] rfl (by simp [Value.oneCell']) (by have := HN.out; have := HS.out; omega) (by have := HN.out; have := HS.out; omega))
          have HCS : Hid (Mt.cs (o ++ [92]) ++ (#[Value.int .u8 (b.toNat : Int)] : Array Value).toList = Mt.cs (o ++ [92, b])) := Lib.hid (by rw [show o ++ [92, b] = (o ++ [92]) ++ [b] by simp, Mt.cs_append (o ++ [92])]; rfl)
          clear hown2 hb2
          go_wp2_with (first | (refine wpList_append_run rfl _ _ 114 114 rfl _ _ rfl rfl hrun2 ?_; obtain ⟨a3, c3, w3, hrun, hown, hb3⟩ := HQ.out; rw [HCS.out] at hown; have HO3 := Lib.hid hown; have HB3 := Lib.hid (HB2.out.trans hb3); clear hrun2 hown hb3) | (refine wpList_append_run rfl _ _ 114 114 rfl _ _ rfl rfl hrun ?_))
          go_roundw
          case rel => exact ⟨k + 1, o ++ [92, b], a3, c3, by go_num, by rw [List.length_append]; rfl, by rw [List.length_append]; exact HO3, by have := HN.out; omega, by have := HN.out; rw [List.length_append]; simp; omega, by rw [hk0.out]; exact HE2, HB3⟩
          case measure => simp [intOf]; have := HN.out; omega
      · obtain ⟨a3, c3, w3, hrun, hown, hb3⟩ := own_text HO.out HB.out.size ⟨#[92, 48, 48]⟩ (by have := HN.out; have := HS.out; show _ + 3 ≤ _; omega)
        have HO3 := Lib.hid hown
        have HB3 := Lib.hid (HB.out.trans hb3)
        clear hown hb3
        go_wp2_with (refine wpList_append_run rfl _ _ 114 9 rfl _ _ rfl rfl hrun ?_)
        go_roundw
        case rel => exact ⟨k + 1, o ++ [92, 48, 48], a3, c3, by go_num, by rw [List.length_append]; rfl, by rw [List.length_append]; exact HO3, by have := HN.out; omega, by have := HN.out; rw [List.length_append]; simp; omega, by rw [hk0.out]; exact HE2, HB3⟩
        case measure => simp [intOf]; have := HN.out; omega
    · have HF : Hid (o = Mt.wrL s.data.toList) := Lib.hid (by
        rw [← HE.out, List.drop_eq_nil_of_le (by have := HL.out; omega)]; simp [Mt.wrF])
      have hcv := own_conv HO.out
      go_wp2_with fail
      go_ret
      exact ⟨by rw [← HF.out]; rfl, HB.out⟩
end Go.Proofs.YtngdbhncafnliaaGreat
