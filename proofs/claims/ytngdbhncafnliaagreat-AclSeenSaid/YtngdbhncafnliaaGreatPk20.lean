/-
  Some texts of one proof, one behind the other.
-/
import Derived.Test.YtngdbhncafnliaaGreatPk6
import Derived.Test.YtngdbhncafnliaaGreatPk12
set_option linter.unusedVariables false
set_option linter.unusedSimpArgs false

/-
  What the call dn.written comes to.
-/
namespace Go.Proofs.YtngdbhncafnliaaGreat
open Go.RowKit

theorem Mt.wrF_len : ∀ (f : Bool) (l : List UInt8), (Mt.wrF f l).length ≤ 3 * l.length
  | _, [] => by simp [Mt.wrF]
  | f, c :: r => by
    have := Mt.wrF_len false r
    simp only [Mt.wrF, List.length_append, List.length_cons]
    split
    · simp; omega
    · split <;> simp <;> omega
theorem Mt.drop_cons (s : ByteArray) (k : Nat) (h : k < s.size) : s.data.toList.drop k = s[k] :: s.data.toList.drop (k + 1) := by
  rw [List.drop_eq_getElem_cons (by simpa using h)]; rfl

set_option maxRecDepth 100000 in
set_option maxHeartbeats 1000000 in
theorem written_any (s : ByteArray) (w : World) (hs : s.size ≤ 1099511627776) :
    Calls Tryz.prog 59 #[.string s] w fun e w' => e = .returned (.string (Mt.str (Mt.wrL s.data.toList))) ∧ Below w.heap.size w w' := by
  obtain ⟨i0, hi, hz0, hz1, hz2⟩ := info_parts Tryz.infoU8
  have HI := Lib.hid (And.intro hi (And.intro hz0 (And.intro hz1 hz2)))
  clear hi hz0 hz1 hz2
  have hl : s.data.toList.length = s.size := rfl
  have HL := Lib.hid hl
  have HS := Lib.hid hs
  clear hl
  go_enter Tryz.func59, Tryz.ntmps59
  go_wp2_with fail
  go_loopw [3, 8] (fun v i wr => ∃ (k : Nat) (o : List UInt8) (a : Option Addr) (c : Nat), i = .int .i64 k ∧ v = .slice a o.length c ∧ Hid (IsOwn 5 1 w.heap.size wr (.slice a o.length c) o.length (Mt.cs o)) ∧ k ≤ s.size ∧ o.length ≤ 3 * k ∧ Hid (o ++ Mt.wrF (decide (k = 0)) (s.data.toList.drop k) = Mt.wrL s.data.toList) ∧ Hid (Below w.heap.size w wr))
    (fun _ i _ => s.size - (intOf i).toNat)
  case atStart => exact ⟨0, [], none, 0, rfl, rfl, Lib.hid (IsOwn.nil _ _ _ _), Nat.zero_le _, by simp, Lib.hid rfl, Lib.hid (Below.refl _ _)⟩
  case round =>
    obtain ⟨k, o, a, c, rfl, rfl, HO, hk, ho, HE, HB⟩ := hrel
    by_cases hlt : k < s.size
    · obtain ⟨b, hb⟩ : ∃ b, s[k] = b := ⟨_, rfl⟩
      have hdr := Mt.drop_cons s k hlt
      rw [hb] at hdr
      obtain ⟨z1, h1⟩ : ∃ z, ((k : Int) == 0) = z := ⟨_, rfl⟩
      have h1' : decide (k = 0) = z1 := by rw [← h1, Bool.eq_iff_iff]; simp
      obtain ⟨z2, h2⟩ : ∃ z, ((k : Int) == (s.size : Int) - 1) = z := ⟨_, rfl⟩
      have h2' : (s.data.toList.drop (k + 1)).isEmpty = z2 := by
        rw [← h2, Bool.eq_iff_iff]
        simp only [List.isEmpty_iff, List.drop_eq_nil_iff, HL.out, beq_iff_eq]; omega
      obtain ⟨z3, h3⟩ : ∃ z, ((b.toNat : Int) == 0) = z := ⟨_, rfl⟩
      have h3' : decide (b = 0) = z3 := by
        rw [← h3, Bool.eq_iff_iff]; simp only [decide_eq_true_eq, beq_iff_eq]
        exact ⟨fun e => by rw [e]; rfl, fun e => Mt.u8_ext (by show b.toNat = 0; omega)⟩
      have HG := Lib.hid (fun u => guarded_int (b.toNat : Int) (by omega) z1 z2 u)
      rw [Int.toNat_natCast] at HG
      obtain ⟨z4, h4⟩ : ∃ z, Mt.guardN b.toNat z1 z2 = z := ⟨_, rfl⟩
      rw [h4] at HG
      have HE2 : Hid ((o ++ (if decide (b = 0) then [92, 48, 48] else if z4 then [92, b] else [b])) ++ Mt.wrF false (s.data.toList.drop (k + 1)) = Mt.wrL s.data.toList) := Lib.hid (by
        rw [← HE.out, hdr]; simp only [Mt.wrF, h1', h2', h4, List.append_assoc, decide_eq_true_eq])
      rw [h3'] at HE2
      have hk0 : Hid (decide (k + 1 = 0) = false) := Lib.hid (by simp)
      have hw1 : wrap64 ((s.size : Int) - 1) = (s.size : Int) - 1 := by have := HS.out; simp only [wrap64]; omega
      have HN := Lib.hid (And.intro hlt ho)
      clear hdr h1' h2' h3' h4 HE hk ho
      cases z3
      · cases z4
        · obtain ⟨a3, c3, w3, hrun, hown, hb3⟩ := own_pushN (T := 114) (tx := 114) Tryz.underlying114 Tryz.underlying114 HI.out.1 HI.out.2.1 HI.out.2.2.1 HI.out.2.2.2 rfl HO.out HB.out.size (Mt.cs_one _) #[.int .u8 (b.toNat : Int)] 1 rfl (by simp [Value.oneCell']) (by have := HN.out; have := HS.out; omega) (by have := HN.out; have := HS.out; omega)
          have HO3 := Lib.hid hown
          have HB3 := Lib.hid (HB.out.trans hb3)
          clear hown hb3
          go_wp2_with (first | (go_at_call 76; refine (HG.out _).mono ?_; rintro e w2 ⟨rfl, rfl⟩) | (refine wpList_append_run rfl _ _ 114 114 rfl _ _ rfl rfl hrun ?_))
          go_roundw
          case rel => exact ⟨k + 1, o ++ [b], a3, c3, by go_num, by rw [List.length_append]; rfl, by rw [List.length_append, Mt.cs_append]; exact HO3, by have := HN.out; omega, by have := HN.out; rw [List.length_append, List.length_singleton]; omega, by rw [hk0.out]; exact HE2, HB3⟩
          case measure => simp [intOf]; have := HN.out; omega
        · obtain ⟨a3, c3, w3, hrun, hown, hb3⟩ := own_pushN (T := 114) (tx := 114) Tryz.underlying114 Tryz.underlying114 HI.out.1 HI.out.2.1 HI.out.2.2.1 HI.out.2.2.2 rfl HO.out HB.out.size (Mt.cs_one _) #[.int .u8 92, .int .u8 (b.toNat : Int)] 2 rfl (by simp [Value.oneCell']) (by have := HN.out; have := HS.out; omega) (by have := HN.out; have := HS.out; omega)
          have HO3 := Lib.hid hown
          have HB3 := Lib.hid (HB.out.trans hb3)
          clear hown hb3
          go_wp2_with (first | (go_at_call 76; refine (HG.out _).mono ?_; rintro e w2 ⟨rfl, rfl⟩) | (refine wpList_append_run rfl _ _ 114 114 rfl _ _ rfl rfl hrun ?_))
          go_roundw
          case rel => exact ⟨k + 1, o ++ [92, b], a3, c3, by go_num, by rw [List.length_append]; rfl, by rw [List.length_append, Mt.cs_append]; exact HO3, by have := HN.out; omega, by have := HN.out; rw [List.length_append]; simp; omega, by rw [hk0.out]; exact HE2, HB3⟩
          case measure => simp [intOf]; have := HN.out; omega
      · obtain ⟨a3, c3, w3, hrun, hown, hb3⟩ := own_text HO.out HB.out.size ⟨#[92, 48, 48]⟩ (by have := HN.out; have := HS.out; show _ + 3 ≤ _; omega)
        have HO3 := Lib.hid hown
        have HB3 := Lib.hid (HB.out.trans hb3)
        clear hown hb3
        go_wp2_with (first | (go_at_call 76; refine (HG.out _).mono ?_; rintro e w2 ⟨rfl, rfl⟩) | (refine wpList_append_run rfl _ _ 114 9 rfl _ _ rfl rfl hrun ?_))
        go_roundw
        case rel => exact ⟨k + 1, o ++ [92, 48, 48], a3, c3, by go_num, by rw [List.length_append]; rfl, by rw [List.length_append]; exact HO3, by have := HN.out; omega, by have := HN.out; rw [List.length_append]; simp; omega, by rw [hk0.out]; exact HE2, HB3⟩
        case measure => simp [intOf]; have := HN.out; omega
    · have HF : Hid (o = Mt.wrL s.data.toList) := Lib.hid (by
        rw [← HE.out, List.drop_eq_nil_of_le (by have := HL.out; omega)]; simp [Mt.wrF])
      have hcv := own_conv HO.out
      go_wp2_with fail
      go_ret
      exact ⟨by rw [← HF.out]; rfl, HB.out⟩
end Go.Proofs.YtngdbhncafnliaaGreat
