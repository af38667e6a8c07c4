/-
  Some texts of one proof, one behind the other.
-/
import Derived.Test.YtngdbhncafnliaaGreatPk17
import Derived.Test.YtngdbhncafnliaaGreatPk19
import Derived.Test.YtngdbhncafnliaaGreatPk20
import Derived.Test.YtngdbhncafnliaaGreatPk29
set_option linter.unusedVariables false
set_option linter.unusedSimpArgs false

/-
  What the document's value comes to.
-/
namespace Go.Proofs.YtngdbhncafnliaaGreat
open Go.RowKit

/-- What value answers. -/
def rvalV (n : Nat) : Option (List UInt8 × List UInt8) → Value
  | none => .tuple #[.string ByteArray.empty, .int .i64 0, .bool false]
  | some (v, rest) => .tuple #[.string (Mt.str v), .int .i64 ((n - rest.length : Nat) : Int), .bool true]
theorem Mt.in_spec : ∀ n : Fin 256, decide (UInt8.ofNat n ∈ [34, 43, 44, 59, 60, 62, 92, 32, 35, 61]) = Mt.specN n := by decide +kernel
theorem Mt.in_q : ∀ n : Fin 256, decide (UInt8.ofNat n ∈ [34, 59, 60, 62]) = decide ((n : Nat) = 34 ∨ (n : Nat) = 59 ∨ (n : Nat) = 60 ∨ (n : Nat) = 62) := by decide +kernel
theorem Mt.in_b : ∀ n : Fin 256, decide (UInt8.ofNat n ∈ [32, 35]) = decide ((n : Nat) = 32 ∨ (n : Nat) = 35) := by decide +kernel
theorem Mt.extract_two (s : ByteArray) (p : Nat) (h : p + 2 < s.size) : s.extract (p + 1) (p + 3) = Mt.str [s[p + 1], s[p + 2]] := by
  apply ByteArray.ext
  rw [ByteArray.data_extract]
  apply Array.ext'
  have h1 : p + 1 < s.data.toList.length := by simpa using (show p + 1 < s.size by omega)
  have h2 : p + 2 < s.data.toList.length := by simpa using h
  have e : (s.data.toList.drop (p + 1)).take 2 = [s[p + 1], s[p + 2]] := by
    rw [List.drop_eq_getElem_cons h1, List.drop_eq_getElem_cons h2]; rfl
  simp only [Mt.str, Array.toList_extract, List.extract]
  rw [show p + 3 - (p + 1) = 2 by omega, e]
theorem Mt.ends_drop (s : ByteArray) (p : Nat) (h : p < s.size) : Mt.endsL (s.data.toList.drop p) = (decide (s[p].toNat = 44) || decide (s[p].toNat = 43)) := by
  rw [Mt.drop_cons s p h]
  simp only [Mt.endsL]
  have e1 : s[p] = 44 ↔ s[p].toNat = 44 := ⟨fun e => by rw [e]; rfl, fun e => Mt.u8_ext (by show s[p].toNat = 44; omega)⟩
  have e2 : s[p] = 43 ↔ s[p].toNat = 43 := ⟨fun e => by rw [e]; rfl, fun e => Mt.u8_ext (by show s[p].toNat = 43; omega)⟩
  rw [Bool.eq_iff_iff]; simp only [decide_eq_true_eq, Bool.or_eq_true, e1, e2]

theorem Mt.valF_step' {k : Nat} {o l : List UInt8} {c : UInt8} {n : Nat} (he : Mt.endsL l = false) (hb : Mt.byteL l = some (c, n)) (hg : (decide (n = 1) && Mt.guardN c.toNat o.isEmpty (Mt.endsL (l.drop n))) = false) : Mt.valF (k + 1) o l = Mt.valF k (o ++ [c]) (l.drop n) := by
  simp [Mt.valF, he, hb, hg]
set_option maxRecDepth 100000 in
set_option maxHeartbeats 8000000 in
theorem rvalue_any (s : ByteArray) (q : Nat) (w : World) (hq : q ≤ s.size) (hs : s.size ≤ 1000000) :
    Calls Tryz.prog 45 #[.string s, .int .i64 q] w fun e w' => e = .returned (rvalV s.size (Mt.valL (s.data.toList.drop q))) ∧ Below w.heap.size w w' := by
  obtain ⟨i0, hi, hz0, hz1, hz2⟩ := info_parts Tryz.infoU8
  have HI := Lib.hid (And.intro hi (And.intro hz0 (And.intro hz1 hz2)))
  obtain ⟨R, hR⟩ : ∃ R, Mt.valL (s.data.toList.drop q) = R := ⟨_, rfl⟩
  have HR0 : Hid (Mt.valF ((s.data.toList.drop q).length + 1) [] (s.data.toList.drop q) = R) := Lib.hid hR
  have hll : s.data.toList.length = s.size := rfl
  have HLL := Lib.hid hll
  rw [hR]
  clear hi hz0 hz1 hz2 hR hll
  go_enter Tryz.func45, Tryz.ntmps45
  go_wp2_with fail
  go_loopw [1, 7, 8] (fun pv v fv wr => ∃ (p : Nat) (o : List UInt8) (a : Option Addr) (c : Nat), pv = .int .i64 p ∧ v = .slice a o.length c ∧ fv = .bool o.isEmpty ∧ p ≤ s.size ∧ o.length ≤ p ∧ Hid (IsOwn 5 1 w.heap.size wr (.slice a o.length c) o.length (Mt.cs o)) ∧ Hid (Mt.valF ((s.data.toList.drop p).length + 1) o (s.data.toList.drop p) = R) ∧ Hid (Below w.heap.size w wr))
    (fun pv _ _ _ => s.size - (intOf pv).toNat)
  case atStart => exact ⟨q, [], none, 0, rfl, rfl, rfl, hq, by simp, Lib.hid (IsOwn.nil _ _ _ _), HR0, Lib.hid (Below.refl _ _)⟩
  case round =>
    obtain ⟨p, o, a, c, rfl, rfl, rfl, hp, hop, HO, HR, HB⟩ := hrel
    have hcv := own_conv HO.out
    have HEND : Hid (Mt.endsL (s.data.toList.drop p) = true → R = some (o, s.data.toList.drop p) ∧ s.size - (s.data.toList.drop p).length = p) := Lib.hid (fun h => ⟨by rw [← HR.out]; simp [Mt.valF, h], by rw [List.length_drop, HLL.out]; omega⟩)
    by_cases hlt : p < s.size
    · obtain ⟨b, hb⟩ : ∃ b, s[p] = b := ⟨_, rfl⟩
      have hend := Mt.ends_drop s p hlt
      rw [hb] at hend
      by_cases h44 : b.toNat = 44
      · have hF := HEND.out (by rw [hend]; simp [h44])
        have HF : Hid (rvalV s.size R = .tuple #[.string (Mt.str o), .int .i64 p, .bool true]) := Lib.hid (by rw [hF.1]; simp only [rvalV, hF.2])
        clear hend hF
        go_wp2_with fail
        exact bodyPost_ret (v := .tuple #[.string (Mt.str o), .int .i64 p, .bool true]) (by simp [results, Tryz.results45, go_sem]) rfl ⟨by rw [HF.out], HB.out⟩
      · by_cases h43 : b.toNat = 43
        · have hF := HEND.out (by rw [hend]; simp [h43])
          have HF : Hid (rvalV s.size R = .tuple #[.string (Mt.str o), .int .i64 p, .bool true]) := Lib.hid (by rw [hF.1]; simp only [rvalV, hF.2])
          clear hend hF
          go_wp2_with fail
          exact bodyPost_ret (v := .tuple #[.string (Mt.str o), .int .i64 p, .bool true]) (by simp [results, Tryz.results45, go_sem]) rfl ⟨by rw [HF.out], HB.out⟩
        · have hne : Mt.endsL (s.data.toList.drop p) = false := by rw [hend]; simp [h44, h43]
          have hdr := Mt.drop_cons s p hlt
          rw [hb] at hdr
          have e44 : ((b.toNat : Int) != 44) = true := by simp; omega
          have e43 : ((b.toNat : Int) != 43) = true := by simp; omega
          have hoe : ∀ x : UInt8, (o ++ [x]).isEmpty = false := fun x => by simp
          have hc0 : ((b.toNat : Int) == 92) = decide (b.toNat = 92) := by rw [Bool.eq_iff_iff]; simp; omega
          clear hend
          by_cases hA : p + 1 = s.size
          · have lA : (((p : Int) + 1) == (s.size : Int)) = true := by simp; omega
            have HL1 : Hid (Mt.endsL (s.data.toList.drop (p + 1)) = true) := Lib.hid (by rw [List.drop_eq_nil_of_le (by have := HLL.out; omega)]; rfl)
            by_cases h92 : b.toNat = 92
            · have hc92 : b = 92 := Mt.u8_ext (by show b.toNat = 92; exact h92)
              rw [decide_eq_true h92] at hc0
              have HF : Hid (rvalV s.size R = .tuple #[.string ByteArray.empty, .int .i64 0, .bool false]) := Lib.hid (by
                have hnil : s.data.toList.drop (p + 1) = [] := List.drop_eq_nil_of_le (by have := HLL.out; omega)
                rw [← HR.out, hdr, hnil] 
                rw [hdr, hnil] at hne
                simp only [Mt.valF, hne, Mt.byteL, hc92]; rfl)
              have l2 : decide ((s.size : Int) < (p : Int) + 1 + 2) = true := decide_eq_true (by omega)
              have l3 : decide ((p : Int) + 1 < (s.size : Int)) = false := decide_eq_false (by omega)
              clear hdr hne HL1
              go_wp2_with fail
              exact bodyPost_ret (v := .tuple #[.string ByteArray.empty, .int .i64 0, .bool false]) (by simp [results, Tryz.results45, go_sem]; rfl) rfl ⟨by rw [HF.out], HB.out⟩
            · rw [decide_eq_false h92] at hc0
              have HG0 := Lib.hid (Mt.in_q ⟨b.toNat, b.toNat_lt⟩)
              have HG1 := Lib.hid (Mt.in_b ⟨b.toNat, b.toNat_lt⟩)
              simp only [UInt8.ofNat_toNat] at HG0 HG1
              have VQ := Lib.hid (fun u => rin_any b ⟨#[34, 59, 60, 62]⟩ u (by simp [ByteArray.size]))
              have VB := Lib.hid (fun u => rin_any b ⟨#[32, 35]⟩ u (by simp [ByteArray.size]))
              have eQ : (⟨#[34, 59, 60, 62]⟩ : ByteArray).data.toList = [34, 59, 60, 62] := rfl
              have eB : (⟨#[32, 35]⟩ : ByteArray).data.toList = [32, 35] := rfl
              rw [eQ, HG0.out] at VQ
              rw [eB, HG1.out] at VB
              clear eQ eB HG0 HG1
              have HBL : Hid (Mt.byteL (s.data.toList.drop p) = some (b, 1)) := Lib.hid (by
                rw [hdr]; simp only [Mt.byteL]; rw [if_pos (fun e => h92 (by rw [e]; rfl))])
              have HD1 : Hid ((s.data.toList.drop p).drop 1 = s.data.toList.drop (p + 1)) := Lib.hid (by rw [List.drop_drop])
              have HNO : Hid (Mt.guardN b.toNat o.isEmpty true = true → rvalV s.size R = .tuple #[.string ByteArray.empty, .int .i64 0, .bool false]) := Lib.hid (fun h => by
                rw [← HR.out]; simp only [Mt.valF, hne, HBL.out, HD1.out, HL1.out, h]; rfl)
              have HYES : Hid (Mt.guardN b.toNat o.isEmpty true = false → Mt.valF ((s.data.toList.drop (p + 1)).length + 1) (o ++ [b]) (s.data.toList.drop (p + 1)) = R) := Lib.hid (fun h => by
                have hlen : (s.data.toList.drop p).length = (s.data.toList.drop (p + 1)).length + 1 := by rw [hdr]; rfl
                rw [← HR.out, hlen, Mt.valF_step' hne HBL.out (by rw [HD1.out, HL1.out, h]; rfl), HD1.out])
              clear hdr hne HBL HD1 HL1
              by_cases b0 : b.toNat = 0
              · have HF := Lib.hid (HNO.out (by simp [Mt.guardN, b0]))
                have f0 : ((b.toNat : Int) == 0) = true := by simp [b0]
                clear b0 HNO HYES
                go_wp2_with fail
                exact bodyPost_ret (v := .tuple #[.string ByteArray.empty, .int .i64 0, .bool false]) (by simp [results, Tryz.results45, go_sem]; rfl) rfl ⟨by rw [HF.out], HB.out⟩
              · have f0 : ((b.toNat : Int) == 0) = false := by simp; omega
                by_cases bq : b.toNat = 34 ∨ b.toNat = 59 ∨ b.toNat = 60 ∨ b.toNat = 62
                · have HF := Lib.hid (HNO.out (by simp only [Mt.guardN, Bool.or_eq_true, decide_eq_true_eq]; omega))
                  rw [decide_eq_true bq] at VQ
                  clear b0 bq HNO HYES
                  go_wp2_with fail
                  refine (VQ.out _).mono ?_
                  rintro x w2 ⟨rfl, rfl⟩
                  go_wp2_with fail
                  exact bodyPost_ret (v := .tuple #[.string ByteArray.empty, .int .i64 0, .bool false]) (by simp [results, Tryz.results45, go_sem]; rfl) rfl ⟨by rw [HF.out], HB.out⟩
                · rw [decide_eq_false bq] at VQ
                  by_cases b32 : b.toNat = 32
                  · have f32 : ((b.toNat : Int) == 32) = true := by simp [b32]
                    rw [decide_eq_true (show b.toNat = 32 ∨ b.toNat = 35 from .inl b32)] at VB
                    cases hoB : o.isEmpty
                    · have HF := Lib.hid (HNO.out (by rw [hoB]; simp [Mt.guardN, b32]))
                      clear b0 bq b32 HNO HYES hoB
                      go_wp2_with fail
                      refine (VQ.out _).mono ?_
                      rintro x w2 ⟨rfl, rfl⟩
                      go_wp2_with fail
                      exact bodyPost_ret (v := .tuple #[.string ByteArray.empty, .int .i64 0, .bool false]) (by simp [results, Tryz.results45, go_sem]; rfl) rfl ⟨by rw [HF.out], HB.out⟩
                    · have HF := Lib.hid (HNO.out (by rw [hoB]; simp [Mt.guardN, b32]))
                      clear b0 bq b32 HNO HYES hoB
                      go_wp2_with fail
                      refine (VQ.out _).mono ?_
                      rintro x w2 ⟨rfl, rfl⟩
                      go_wp2_with fail
                      refine (VB.out _).mono ?_
                      rintro x w2 ⟨rfl, rfl⟩
                      go_wp2_with fail
                      exact bodyPost_ret (v := .tuple #[.string ByteArray.empty, .int .i64 0, .bool false]) (by simp [results, Tryz.results45, go_sem]; rfl) rfl ⟨by rw [HF.out], HB.out⟩
                  · have f32 : ((b.toNat : Int) == 32) = false := by simp; omega
                    by_cases b35 : b.toNat = 35
                    · rw [decide_eq_true (show b.toNat = 32 ∨ b.toNat = 35 from .inr b35)] at VB
                      cases hoB : o.isEmpty
                      · have HR2 : Hid (Mt.valF ((s.data.toList.drop (p + 1)).length + 1) (o ++ [b]) (s.data.toList.drop (p + 1)) = R) := Lib.hid (HYES.out (by rw [hoB]; simp [Mt.guardN, b35]))
                        clear b0 bq b32 b35 HNO HYES
                        clear hoB
                        go_wp2_with fail
                        refine (VQ.out _).mono ?_
                        rintro x w2 ⟨rfl, rfl⟩
                        obtain ⟨a3, c3, w3, hrun, hown, hb3⟩ := own_push (T := 114) (tx := 114) Tryz.underlying114 Tryz.underlying114 HI.out.1 HI.out.2.1 HI.out.2.2.1 HI.out.2.2.2 rfl HO.out HB.out.size (Mt.cs_one _) #[.int .u8 (b.toNat : Int)] rfl (by simp [Value.oneCell']) (by omega) (by omega)
                        have HO3 := Lib.hid hown
                        have HB3 := Lib.hid (HB.out.trans hb3)
                        clear hown hb3
                        go_wp2_with (refine wpList_append_run rfl _ _ 114 114 rfl _ _ rfl rfl hrun ?_)
                        go_roundw
                        case rel => exact ⟨p + 1, o ++ [b], a3, c3, by first | rfl | (congr 1; push_cast; omega) | go_num, by rw [List.length_append]; rfl, by rw [hoe], by omega, by rw [List.length_append, List.length_singleton]; omega, by rw [List.length_append, Mt.cs_append]; exact HO3, HR2, HB3⟩
                        case measure => simp [intOf]; omega
                      · have HF := Lib.hid (HNO.out (by rw [hoB]; simp [Mt.guardN, b35]))
                        clear b0 bq b32 b35 HNO HYES hoB
                        go_wp2_with fail
                        refine (VQ.out _).mono ?_
                        rintro x w2 ⟨rfl, rfl⟩
                        go_wp2_with fail
                        refine (VB.out _).mono ?_
                        rintro x w2 ⟨rfl, rfl⟩
                        go_wp2_with fail
                        exact bodyPost_ret (v := .tuple #[.string ByteArray.empty, .int .i64 0, .bool false]) (by simp [results, Tryz.results45, go_sem]; rfl) rfl ⟨by rw [HF.out], HB.out⟩
                    · rw [decide_eq_false (show ¬ (b.toNat = 32 ∨ b.toNat = 35) by omega)] at VB
                      have HR2 : Hid (Mt.valF ((s.data.toList.drop (p + 1)).length + 1) (o ++ [b]) (s.data.toList.drop (p + 1)) = R) := Lib.hid (HYES.out (by
                        simp only [Mt.guardN, Bool.or_eq_false_iff, Bool.and_eq_false_iff, decide_eq_false_iff_not]; omega))
                      cases hoB : o.isEmpty
                      · clear b0 bq b32 b35 HNO HYES hoB
                        go_wp2_with fail
                        refine (VQ.out _).mono ?_
                        rintro x w2 ⟨rfl, rfl⟩
                        obtain ⟨a3, c3, w3, hrun, hown, hb3⟩ := own_push (T := 114) (tx := 114) Tryz.underlying114 Tryz.underlying114 HI.out.1 HI.out.2.1 HI.out.2.2.1 HI.out.2.2.2 rfl HO.out HB.out.size (Mt.cs_one _) #[.int .u8 (b.toNat : Int)] rfl (by simp [Value.oneCell']) (by omega) (by omega)
                        have HO3 := Lib.hid hown
                        have HB3 := Lib.hid (HB.out.trans hb3)
                        clear hown hb3
                        go_wp2_with (refine wpList_append_run rfl _ _ 114 114 rfl _ _ rfl rfl hrun ?_)
                        go_roundw
                        case rel => exact ⟨p + 1, o ++ [b], a3, c3, by first | rfl | (congr 1; push_cast; omega) | go_num, by rw [List.length_append]; rfl, by rw [hoe], by omega, by rw [List.length_append, List.length_singleton]; omega, by rw [List.length_append, Mt.cs_append]; exact HO3, HR2, HB3⟩
                        case measure => simp [intOf]; omega
                      · clear b0 bq b32 b35 HNO HYES hoB
                        go_wp2_with fail
                        refine (VQ.out _).mono ?_
                        rintro x w2 ⟨rfl, rfl⟩
                        go_wp2_with fail
                        refine (VB.out _).mono ?_
                        rintro x w2 ⟨rfl, rfl⟩
                        obtain ⟨a3, c3, w3, hrun, hown, hb3⟩ := own_push (T := 114) (tx := 114) Tryz.underlying114 Tryz.underlying114 HI.out.1 HI.out.2.1 HI.out.2.2.1 HI.out.2.2.2 rfl HO.out HB.out.size (Mt.cs_one _) #[.int .u8 (b.toNat : Int)] rfl (by simp [Value.oneCell']) (by omega) (by omega)
                        have HO3 := Lib.hid hown
                        have HB3 := Lib.hid (HB.out.trans hb3)
                        clear hown hb3
                        go_wp2_with (refine wpList_append_run rfl _ _ 114 114 rfl _ _ rfl rfl hrun ?_)
                        go_roundw
                        case rel => exact ⟨p + 1, o ++ [b], a3, c3, by first | rfl | (congr 1; push_cast; omega) | go_num, by rw [List.length_append]; rfl, by rw [hoe], by omega, by rw [List.length_append, List.length_singleton]; omega, by rw [List.length_append, Mt.cs_append]; exact HO3, HR2, HB3⟩
                        case measure => simp [intOf]; omega
          · have hB : p + 1 < s.size := by omega
            have lA : (((p : Int) + 1) == (s.size : Int)) = false := by simp; omega
            have hi0 : (0 : Int) ≤ (p : Int) + 1 := by omega
            have hi1 : (p : Int) + 1 < (s.size : Int) := by omega
            have htn : ((p : Int) + 1).toNat = p + 1 := by omega
            obtain ⟨d, hd⟩ : ∃ d, s[p + 1] = d := ⟨_, rfl⟩
            have hend2 := Mt.ends_drop s (p + 1) hB
            rw [hd] at hend2
            by_cases d44 : d.toNat = 44
            · have y1 : ((d.toNat : Int) == 44) = true := by simp [d44]
              have HL1 : Hid (Mt.endsL (s.data.toList.drop (p + 1)) = true) := Lib.hid (by rw [hend2]; simp [d44])
              clear hend2 d44 hA
              by_cases h92 : b.toNat = 92
              · have hc92 : b = 92 := Mt.u8_ext (by show b.toNat = 92; exact h92)
                rw [decide_eq_true h92] at hc0
                have HSP := Lib.hid (Mt.in_spec ⟨d.toNat, d.toNat_lt⟩)
                simp only [UInt8.ofNat_toNat] at HSP
                have VS := Lib.hid (fun u => rin_any d ⟨#[34, 43, 44, 59, 60, 62, 92, 32, 35, 61]⟩ u (by simp [ByteArray.size]))
                have eS : (⟨#[34, 43, 44, 59, 60, 62, 92, 32, 35, 61]⟩ : ByteArray).data.toList = [34, 43, 44, 59, 60, 62, 92, 32, 35, 61] := rfl
                rw [eS, HSP.out] at VS
                have l3 : decide ((p : Int) + 1 < (s.size : Int)) = true := decide_eq_true (by omega)
                have hdr2 := Mt.drop_cons s (p + 1) hB
                rw [hd] at hdr2
                rw [hdr2, hc92] at hdr
                have hoe2 : o.length ≤ p := hop
                clear eS HSP HL1
                cases hsp : Mt.specN d.toNat
                · rw [hsp] at VS
                  by_cases h3 : p + 2 < s.size
                  · obtain ⟨e, he⟩ : ∃ e, s[p + 2] = e := ⟨_, rfl⟩
                    have hdr3 := Mt.drop_cons s (p + 2) h3
                    rw [he] at hdr3
                    rw [hdr3] at hdr
                    have l4 : decide ((s.size : Int) < (p : Int) + 1 + 2) = false := decide_eq_false (by omega)
                    have hx2 := Mt.extract_two s p h3
                    rw [hd, he] at hx2
                    have hx2' : s.extract (p + 1) (p + 1 + 2) = Mt.str [d, e] := hx2
                    have htn2 : ((p : Int) + 1 + 2).toNat = p + 3 := by omega
                    have hj2 : (p : Int) + 1 + 2 ≤ (s.size : Int) := by omega
                    have hj3 : (0 : Int) ≤ (p : Int) + 1 + 2 := by omega
                    have hj4 : (p : Int) + 1 ≤ (p : Int) + 1 + 2 := by omega
                    have VU := Lib.hid (fun u => runhex_any (Mt.str [d, e]) u (by rw [Mt.str_size]; simp))
                    rw [Mt.str_data, Mt.unhex_two] at VU
                    cases hx : Mt.hv d.toNat with
                    | none =>
                      simp only [hx] at VU
                      have HF : Hid (rvalV s.size R = .tuple #[.string ByteArray.empty, .int .i64 0, .bool false]) := Lib.hid (by
                        rw [← HR.out, hdr]
                        rw [hdr] at hne
                        simp [Mt.valF, hne, Mt.byteL, hsp, hx]; rfl)
                      clear hdr hne hsp hx hdr2 hdr3
                      go_wp2_with fail
                      refine (VS.out _).mono ?_
                      rintro x w2 ⟨rfl, rfl⟩
                      go_wp2_with fail
                      refine (VU.out _).mono ?_
                      rintro x w2 ⟨rfl, hb⟩
                      have HOx := Lib.hid (HO.out.below hb)
                      have HBx := Lib.hid (HB.out.trans (hb.mono HB.out.size))
                      clear hb HO HB
                      have HO := HOx
                      have HB := HBx
                      clear HOx HBx
                      go_wp2_with fail
                      exact bodyPost_ret (v := .tuple #[.string ByteArray.empty, .int .i64 0, .bool false]) (by simp [results, Tryz.results45, go_sem]; rfl) rfl ⟨by rw [HF.out], HB.out⟩
                    | some x =>
                      cases hy : Mt.hv e.toNat with
                      | none =>
                        simp only [hx, hy] at VU
                        have HF : Hid (rvalV s.size R = .tuple #[.string ByteArray.empty, .int .i64 0, .bool false]) := Lib.hid (by
                          rw [← HR.out, hdr]
                          rw [hdr] at hne
                          simp [Mt.valF, hne, Mt.byteL, hsp, hx, hy]; rfl)
                        clear hdr hne hsp hx hy hdr2 hdr3
                        go_wp2_with fail
                        refine (VS.out _).mono ?_
                        rintro x w2 ⟨rfl, rfl⟩
                        go_wp2_with fail
                        refine (VU.out _).mono ?_
                        rintro x w2 ⟨rfl, hb⟩
                        have HOx := Lib.hid (HO.out.below hb)
                        have HBx := Lib.hid (HB.out.trans (hb.mono HB.out.size))
                        clear hb HO HB
                        have HO := HOx
                        have HB := HBx
                        clear HOx HBx
                        go_wp2_with fail
                        exact bodyPost_ret (v := .tuple #[.string ByteArray.empty, .int .i64 0, .bool false]) (by simp [results, Tryz.results45, go_sem]; rfl) rfl ⟨by rw [HF.out], HB.out⟩
                      | some y =>
                        simp only [hx, hy] at VU
                        have HR2 : Hid (Mt.valF ((s.data.toList.drop (p + 3)).length + 1) (o ++ [UInt8.ofNat (16 * x + y)]) (s.data.toList.drop (p + 3)) = R) := Lib.hid (by
                          have hlen : (s.data.toList.drop p).length = (s.data.toList.drop (p + 3)).length + 3 := by rw [hdr]; rfl
                          have hbl : Mt.byteL (s.data.toList.drop p) = some (UInt8.ofNat (16 * x + y), 3) := by rw [hdr]; simp [Mt.byteL, hsp, hx, hy]
                          have hdd : (s.data.toList.drop p).drop 3 = s.data.toList.drop (p + 3) := by rw [List.drop_drop]
                          rw [← HR.out, hlen, Mt.valF_step' hne hbl (by simp), hdd]
                          exact Mt.valF_more _ _ _ _ (by omega) (by omega))
                        generalize UInt8.ofNat (16 * x + y) = g at *
                        have hg0 : (Mt.str [g]).size = 1 := by rw [Mt.str_size]; rfl
                        have hg1 : 0 < (Mt.str [g]).size := by omega
                        have hg : (Mt.str [g])[0] = g := rfl
                        clear hdr hne hsp hx hy hdr2 hdr3
                        go_wp2_with fail
                        refine (VS.out _).mono ?_
                        rintro x w2 ⟨rfl, rfl⟩
                        go_wp2_with fail
                        refine (VU.out _).mono ?_
                        rintro x w2 ⟨rfl, hb⟩
                        have HOx := Lib.hid (HO.out.below hb)
                        have HBx := Lib.hid (HB.out.trans (hb.mono HB.out.size))
                        clear hb HO HB
                        have HO := HOx
                        have HB := HBx
                        clear HOx HBx
                        obtain ⟨a3, c3, w3, hrun, hown, hb3⟩ := own_push (T := 114) (tx := 114) Tryz.underlying114 Tryz.underlying114 HI.out.1 HI.out.2.1 HI.out.2.2.1 HI.out.2.2.2 rfl HO.out HB.out.size (Mt.cs_one _) #[.int .u8 (g.toNat : Int)] rfl (by simp [Value.oneCell']) (by omega) (by omega)
                        have HO3 := Lib.hid hown
                        have HB3 := Lib.hid (HB.out.trans hb3)
                        clear hown hb3
                        go_wp2_with (refine wpList_append_run rfl _ _ 114 114 rfl _ _ rfl rfl hrun ?_)
                        go_roundw
                        case rel => exact ⟨p + 3, o ++ [g], a3, c3, by first | rfl | (congr 1; push_cast; omega) | go_num, by rw [List.length_append]; rfl, by rw [hoe], by omega, by rw [List.length_append, List.length_singleton]; omega, by rw [List.length_append, Mt.cs_append]; exact HO3, HR2, HB3⟩
                        case measure => simp [intOf]; omega
                  · have l4 : decide ((s.size : Int) < (p : Int) + 1 + 2) = true := decide_eq_true (by omega)
                    have HF : Hid (rvalV s.size R = .tuple #[.string ByteArray.empty, .int .i64 0, .bool false]) := Lib.hid (by
                      have hnil : s.data.toList.drop (p + 1 + 1) = [] := List.drop_eq_nil_of_le (by have := HLL.out; omega)
                      rw [hnil] at hdr
                      rw [← HR.out, hdr]
                      rw [hdr] at hne
                      simp [Mt.valF, hne, Mt.byteL, hsp]; rfl)
                    clear hdr hne hsp hdr2
                    go_wp2_with fail
                    refine (VS.out _).mono ?_
                    rintro x w2 ⟨rfl, rfl⟩
                    go_wp2_with fail
                    exact bodyPost_ret (v := .tuple #[.string ByteArray.empty, .int .i64 0, .bool false]) (by simp [results, Tryz.results45, go_sem]; rfl) rfl ⟨by rw [HF.out], HB.out⟩
                · rw [hsp] at VS
                  have HR2 : Hid (Mt.valF ((s.data.toList.drop (p + 2)).length + 1) (o ++ [d]) (s.data.toList.drop (p + 2)) = R) := Lib.hid (by
                    have hlen : (s.data.toList.drop p).length = (s.data.toList.drop (p + 2)).length + 2 := by rw [hdr]; rfl
                    have hbl : Mt.byteL (s.data.toList.drop p) = some (d, 2) := by rw [hdr]; simp [Mt.byteL, hsp]
                    have hdd : (s.data.toList.drop p).drop 2 = s.data.toList.drop (p + 2) := by rw [List.drop_drop]
                    rw [← HR.out, hlen, Mt.valF_step' hne hbl (by simp), hdd]
                    exact Mt.valF_more _ _ _ _ (by omega) (by omega))
                  clear hdr hne hsp hdr2
                  go_wp2_with fail
                  refine (VS.out _).mono ?_
                  rintro x w2 ⟨rfl, rfl⟩
                  obtain ⟨a3, c3, w3, hrun, hown, hb3⟩ := own_push (T := 114) (tx := 114) Tryz.underlying114 Tryz.underlying114 HI.out.1 HI.out.2.1 HI.out.2.2.1 HI.out.2.2.2 rfl HO.out HB.out.size (Mt.cs_one _) #[.int .u8 (d.toNat : Int)] rfl (by simp [Value.oneCell']) (by omega) (by omega)
                  have HO3 := Lib.hid hown
                  have HB3 := Lib.hid (HB.out.trans hb3)
                  clear hown hb3
                  go_wp2_with (refine wpList_append_run rfl _ _ 114 114 rfl _ _ rfl rfl hrun ?_)
                  go_roundw
                  case rel => exact ⟨p + 2, o ++ [d], a3, c3, by first | rfl | (congr 1; push_cast; omega) | go_num, by rw [List.length_append]; rfl, by rw [hoe], by omega, by rw [List.length_append, List.length_singleton]; omega, by rw [List.length_append, Mt.cs_append]; exact HO3, HR2, HB3⟩
                  case measure => simp [intOf]; omega
              · rw [decide_eq_false h92] at hc0
                have HG0 := Lib.hid (Mt.in_q ⟨b.toNat, b.toNat_lt⟩)
                have HG1 := Lib.hid (Mt.in_b ⟨b.toNat, b.toNat_lt⟩)
                simp only [UInt8.ofNat_toNat] at HG0 HG1
                have VQ := Lib.hid (fun u => rin_any b ⟨#[34, 59, 60, 62]⟩ u (by simp [ByteArray.size]))
                have VB := Lib.hid (fun u => rin_any b ⟨#[32, 35]⟩ u (by simp [ByteArray.size]))
                have eQ : (⟨#[34, 59, 60, 62]⟩ : ByteArray).data.toList = [34, 59, 60, 62] := rfl
                have eB : (⟨#[32, 35]⟩ : ByteArray).data.toList = [32, 35] := rfl
                rw [eQ, HG0.out] at VQ
                rw [eB, HG1.out] at VB
                clear eQ eB HG0 HG1
                have HBL : Hid (Mt.byteL (s.data.toList.drop p) = some (b, 1)) := Lib.hid (by
                  rw [hdr]; simp only [Mt.byteL]; rw [if_pos (fun e => h92 (by rw [e]; rfl))])
                have HD1 : Hid ((s.data.toList.drop p).drop 1 = s.data.toList.drop (p + 1)) := Lib.hid (by rw [List.drop_drop])
                have HNO : Hid (Mt.guardN b.toNat o.isEmpty true = true → rvalV s.size R = .tuple #[.string ByteArray.empty, .int .i64 0, .bool false]) := Lib.hid (fun h => by
                  rw [← HR.out]; simp only [Mt.valF, hne, HBL.out, HD1.out, HL1.out, h]; rfl)
                have HYES : Hid (Mt.guardN b.toNat o.isEmpty true = false → Mt.valF ((s.data.toList.drop (p + 1)).length + 1) (o ++ [b]) (s.data.toList.drop (p + 1)) = R) := Lib.hid (fun h => by
                  have hlen : (s.data.toList.drop p).length = (s.data.toList.drop (p + 1)).length + 1 := by rw [hdr]; rfl
                  rw [← HR.out, hlen, Mt.valF_step' hne HBL.out (by rw [HD1.out, HL1.out, h]; rfl), HD1.out])
                clear hdr hne HBL HD1 HL1
                by_cases b0 : b.toNat = 0
                · have HF := Lib.hid (HNO.out (by simp [Mt.guardN, b0]))
                  have f0 : ((b.toNat : Int) == 0) = true := by simp [b0]
                  clear b0 HNO HYES
                  go_wp2_with fail
                  exact bodyPost_ret (v := .tuple #[.string ByteArray.empty, .int .i64 0, .bool false]) (by simp [results, Tryz.results45, go_sem]; rfl) rfl ⟨by rw [HF.out], HB.out⟩
                · have f0 : ((b.toNat : Int) == 0) = false := by simp; omega
                  by_cases bq : b.toNat = 34 ∨ b.toNat = 59 ∨ b.toNat = 60 ∨ b.toNat = 62
                  · have HF := Lib.hid (HNO.out (by simp only [Mt.guardN, Bool.or_eq_true, decide_eq_true_eq]; omega))
                    rw [decide_eq_true bq] at VQ
                    clear b0 bq HNO HYES
                    go_wp2_with fail
                    refine (VQ.out _).mono ?_
                    rintro x w2 ⟨rfl, rfl⟩
                    go_wp2_with fail
                    exact bodyPost_ret (v := .tuple #[.string ByteArray.empty, .int .i64 0, .bool false]) (by simp [results, Tryz.results45, go_sem]; rfl) rfl ⟨by rw [HF.out], HB.out⟩
                  · rw [decide_eq_false bq] at VQ
                    by_cases b32 : b.toNat = 32
                    · have f32 : ((b.toNat : Int) == 32) = true := by simp [b32]
                      rw [decide_eq_true (show b.toNat = 32 ∨ b.toNat = 35 from .inl b32)] at VB
                      cases hoB : o.isEmpty
                      · have HF := Lib.hid (HNO.out (by rw [hoB]; simp [Mt.guardN, b32]))
                        clear b0 bq b32 HNO HYES hoB
                        go_wp2_with fail
                        refine (VQ.out _).mono ?_
                        rintro x w2 ⟨rfl, rfl⟩
                        go_wp2_with fail
                        exact bodyPost_ret (v := .tuple #[.string ByteArray.empty, .int .i64 0, .bool false]) (by simp [results, Tryz.results45, go_sem]; rfl) rfl ⟨by rw [HF.out], HB.out⟩
                      · have HF := Lib.hid (HNO.out (by rw [hoB]; simp [Mt.guardN, b32]))
                        clear b0 bq b32 HNO HYES hoB
                        go_wp2_with fail
                        refine (VQ.out _).mono ?_
                        rintro x w2 ⟨rfl, rfl⟩
                        go_wp2_with fail
                        refine (VB.out _).mono ?_
                        rintro x w2 ⟨rfl, rfl⟩
                        go_wp2_with fail
                        exact bodyPost_ret (v := .tuple #[.string ByteArray.empty, .int .i64 0, .bool false]) (by simp [results, Tryz.results45, go_sem]; rfl) rfl ⟨by rw [HF.out], HB.out⟩
                    · have f32 : ((b.toNat : Int) == 32) = false := by simp; omega
                      by_cases b35 : b.toNat = 35
                      · rw [decide_eq_true (show b.toNat = 32 ∨ b.toNat = 35 from .inr b35)] at VB
                        cases hoB : o.isEmpty
                        · have HR2 : Hid (Mt.valF ((s.data.toList.drop (p + 1)).length + 1) (o ++ [b]) (s.data.toList.drop (p + 1)) = R) := Lib.hid (HYES.out (by rw [hoB]; simp [Mt.guardN, b35]))
                          clear b0 bq b32 b35 HNO HYES
                          clear hoB
                          go_wp2_with fail
                          refine (VQ.out _).mono ?_
                          rintro x w2 ⟨rfl, rfl⟩
                          obtain ⟨a3, c3, w3, hrun, hown, hb3⟩ := own_push (T := 114) (tx := 114) Tryz.underlying114 Tryz.underlying114 HI.out.1 HI.out.2.1 HI.out.2.2.1 HI.out.2.2.2 rfl HO.out HB.out.size (Mt.cs_one _) #[.int .u8 (b.toNat : Int)] rfl (by simp [Value.oneCell']) (by omega) (by omega)
                          have HO3 := Lib.hid hown
                          have HB3 := Lib.hid (HB.out.trans hb3)
                          clear hown hb3
                          go_wp2_with (refine wpList_append_run rfl _ _ 114 114 rfl _ _ rfl rfl hrun ?_)
                          go_roundw
                          case rel => exact ⟨p + 1, o ++ [b], a3, c3, by first | rfl | (congr 1; push_cast; omega) | go_num, by rw [List.length_append]; rfl, by rw [hoe], by omega, by rw [List.length_append, List.length_singleton]; omega, by rw [List.length_append, Mt.cs_append]; exact HO3, HR2, HB3⟩
                          case measure => simp [intOf]; omega
                        · have HF := Lib.hid (HNO.out (by rw [hoB]; simp [Mt.guardN, b35]))
                          clear b0 bq b32 b35 HNO HYES hoB
                          go_wp2_with fail
                          refine (VQ.out _).mono ?_
                          rintro x w2 ⟨rfl, rfl⟩
                          go_wp2_with fail
                          refine (VB.out _).mono ?_
                          rintro x w2 ⟨rfl, rfl⟩
                          go_wp2_with fail
                          exact bodyPost_ret (v := .tuple #[.string ByteArray.empty, .int .i64 0, .bool false]) (by simp [results, Tryz.results45, go_sem]; rfl) rfl ⟨by rw [HF.out], HB.out⟩
                      · rw [decide_eq_false (show ¬ (b.toNat = 32 ∨ b.toNat = 35) by omega)] at VB
                        have HR2 : Hid (Mt.valF ((s.data.toList.drop (p + 1)).length + 1) (o ++ [b]) (s.data.toList.drop (p + 1)) = R) := Lib.hid (HYES.out (by
                          simp only [Mt.guardN, Bool.or_eq_false_iff, Bool.and_eq_false_iff, decide_eq_false_iff_not]; omega))
                        cases hoB : o.isEmpty
                        · clear b0 bq b32 b35 HNO HYES hoB
                          go_wp2_with fail
                          refine (VQ.out _).mono ?_
                          rintro x w2 ⟨rfl, rfl⟩
                          obtain ⟨a3, c3, w3, hrun, hown, hb3⟩ := own_push (T := 114) (tx := 114) Tryz.underlying114 Tryz.underlying114 HI.out.1 HI.out.2.1 HI.out.2.2.1 HI.out.2.2.2 rfl HO.out HB.out.size (Mt.cs_one _) #[.int .u8 (b.toNat : Int)] rfl (by simp [Value.oneCell']) (by omega) (by omega)
                          have HO3 := Lib.hid hown
                          have HB3 := Lib.hid (HB.out.trans hb3)
                          clear hown hb3
                          go_wp2_with (refine wpList_append_run rfl _ _ 114 114 rfl _ _ rfl rfl hrun ?_)
                          go_roundw
                          case rel => exact ⟨p + 1, o ++ [b], a3, c3, by first | rfl | (congr 1; push_cast; omega) | go_num, by rw [List.length_append]; rfl, by rw [hoe], by omega, by rw [List.length_append, List.length_singleton]; omega, by rw [List.length_append, Mt.cs_append]; exact HO3, HR2, HB3⟩
                          case measure => simp [intOf]; omega
                        · clear b0 bq b32 b35 HNO HYES hoB
                          go_wp2_with fail
                          refine (VQ.out _).mono ?_
                          rintro x w2 ⟨rfl, rfl⟩
                          go_wp2_with fail
                          refine (VB.out _).mono ?_
                          rintro x w2 ⟨rfl, rfl⟩
                          obtain ⟨a3, c3, w3, hrun, hown, hb3⟩ := own_push (T := 114) (tx := 114) Tryz.underlying114 Tryz.underlying114 HI.out.1 HI.out.2.1 HI.out.2.2.1 HI.out.2.2.2 rfl HO.out HB.out.size (Mt.cs_one _) #[.int .u8 (b.toNat : Int)] rfl (by simp [Value.oneCell']) (by omega) (by omega)
                          have HO3 := Lib.hid hown
                          have HB3 := Lib.hid (HB.out.trans hb3)
                          clear hown hb3
                          go_wp2_with (refine wpList_append_run rfl _ _ 114 114 rfl _ _ rfl rfl hrun ?_)
                          go_roundw
                          case rel => exact ⟨p + 1, o ++ [b], a3, c3, by first | rfl | (congr 1; push_cast; omega) | go_num, by rw [List.length_append]; rfl, by rw [hoe], by omega, by rw [List.length_append, List.length_singleton]; omega, by rw [List.length_append, Mt.cs_append]; exact HO3, HR2, HB3⟩
                          case measure => simp [intOf]; omega
            · have y1 : ((d.toNat : Int) == 44) = false := by simp; omega
              by_cases d43 : d.toNat = 43
              · have y2 : ((d.toNat : Int) == 43) = true := by simp [d43]
                have HL1 : Hid (Mt.endsL (s.data.toList.drop (p + 1)) = true) := Lib.hid (by rw [hend2]; simp [d43])
                clear hend2 d44 d43 hA
                by_cases h92 : b.toNat = 92
                · have hc92 : b = 92 := Mt.u8_ext (by show b.toNat = 92; exact h92)
                  rw [decide_eq_true h92] at hc0
                  have HSP := Lib.hid (Mt.in_spec ⟨d.toNat, d.toNat_lt⟩)
                  simp only [UInt8.ofNat_toNat] at HSP
                  have VS := Lib.hid (fun u => rin_any d ⟨#[34, 43, 44, 59, 60, 62, 92, 32, 35, 61]⟩ u (by simp [ByteArray.size]))
                  have eS : (⟨#[34, 43, 44, 59, 60, 62, 92, 32, 35, 61]⟩ : ByteArray).data.toList = [34, 43, 44, 59, 60, 62, 92, 32, 35, 61] := rfl
                  rw [eS, HSP.out] at VS
                  have l3 : decide ((p : Int) + 1 < (s.size : Int)) = true := decide_eq_true (by omega)
                  have hdr2 := Mt.drop_cons s (p + 1) hB
                  rw [hd] at hdr2
                  rw [hdr2, hc92] at hdr
                  have hoe2 : o.length ≤ p := hop
                  clear eS HSP HL1
                  cases hsp : Mt.specN d.toNat
                  · rw [hsp] at VS
                    by_cases h3 : p + 2 < s.size
                    · obtain ⟨e, he⟩ : ∃ e, s[p + 2] = e := ⟨_, rfl⟩
                      have hdr3 := Mt.drop_cons s (p + 2) h3
                      rw [he] at hdr3
                      rw [hdr3] at hdr
                      have l4 : decide ((s.size : Int) < (p : Int) + 1 + 2) = false := decide_eq_false (by omega)
                      have hx2 := Mt.extract_two s p h3
                      rw [hd, he] at hx2
                      have hx2' : s.extract (p + 1) (p + 1 + 2) = Mt.str [d, e] := hx2
                      have htn2 : ((p : Int) + 1 + 2).toNat = p + 3 := by omega
                      have hj2 : (p : Int) + 1 + 2 ≤ (s.size : Int) := by omega
                      have hj3 : (0 : Int) ≤ (p : Int) + 1 + 2 := by omega
                      have hj4 : (p : Int) + 1 ≤ (p : Int) + 1 + 2 := by omega
                      have VU := Lib.hid (fun u => runhex_any (Mt.str [d, e]) u (by rw [Mt.str_size]; simp))
                      rw [Mt.str_data, Mt.unhex_two] at VU
                      cases hx : Mt.hv d.toNat with
                      | none =>
                        simp only [hx] at VU
                        have HF : Hid (rvalV s.size R = .tuple #[.string ByteArray.empty, .int .i64 0, .bool false]) := Lib.hid (by
                          rw [← HR.out, hdr]
                          rw [hdr] at hne
                          simp [Mt.valF, hne, Mt.byteL, hsp, hx]; rfl)
                        clear hdr hne hsp hx hdr2 hdr3
                        go_wp2_with fail
                        refine (VS.out _).mono ?_
                        rintro x w2 ⟨rfl, rfl⟩
                        go_wp2_with fail
                        refine (VU.out _).mono ?_
                        rintro x w2 ⟨rfl, hb⟩
                        have HOx := Lib.hid (HO.out.below hb)
                        have HBx := Lib.hid (HB.out.trans (hb.mono HB.out.size))
                        clear hb HO HB
                        have HO := HOx
                        have HB := HBx
                        clear HOx HBx
                        go_wp2_with fail
                        exact bodyPost_ret (v := .tuple #[.string ByteArray.empty, .int .i64 0, .bool false]) (by simp [results, Tryz.results45, go_sem]; rfl) rfl ⟨by rw [HF.out], HB.out⟩
                      | some x =>
                        cases hy : Mt.hv e.toNat with
                        | none =>
                          simp only [hx, hy] at VU
                          have HF : Hid (rvalV s.size R = .tuple #[.string ByteArray.empty, .int .i64 0, .bool false]) := Lib.hid (by
                            rw [← HR.out, hdr]
                            rw [hdr] at hne
                            simp [Mt.valF, hne, Mt.byteL, hsp, hx, hy]; rfl)
                          clear hdr hne hsp hx hy hdr2 hdr3
                          go_wp2_with fail
                          refine (VS.out _).mono ?_
                          rintro x w2 ⟨rfl, rfl⟩
                          go_wp2_with fail
                          refine (VU.out _).mono ?_
                          rintro x w2 ⟨rfl, hb⟩
                          have HOx := Lib.hid (HO.out.below hb)
                          have HBx := Lib.hid (HB.out.trans (hb.mono HB.out.size))
                          clear hb HO HB
                          have HO := HOx
                          have HB := HBx
                          clear HOx HBx
                          go_wp2_with fail
                          exact bodyPost_ret (v := .tuple #[.string ByteArray.empty, .int .i64 0, .bool false]) (by simp [results, Tryz.results45, go_sem]; rfl) rfl ⟨by rw [HF.out], HB.out⟩
                        | some y =>
                          simp only [hx, hy] at VU
                          have HR2 : Hid (Mt.valF ((s.data.toList.drop (p + 3)).length + 1) (o ++ [UInt8.ofNat (16 * x + y)]) (s.data.toList.drop (p + 3)) = R) := Lib.hid (by
                            have hlen : (s.data.toList.drop p).length = (s.data.toList.drop (p + 3)).length + 3 := by rw [hdr]; rfl
                            have hbl : Mt.byteL (s.data.toList.drop p) = some (UInt8.ofNat (16 * x + y), 3) := by rw [hdr]; simp [Mt.byteL, hsp, hx, hy]
                            have hdd : (s.data.toList.drop p).drop 3 = s.data.toList.drop (p + 3) := by rw [List.drop_drop]
                            rw [← HR.out, hlen, Mt.valF_step' hne hbl (by simp), hdd]
                            exact Mt.valF_more _ _ _ _ (by omega) (by omega))
                          generalize UInt8.ofNat (16 * x + y) = g at *
                          have hg0 : (Mt.str [g]).size = 1 := by rw [Mt.str_size]; rfl
                          have hg1 : 0 < (Mt.str [g]).size := by omega
                          have hg : (Mt.str [g])[0] = g := rfl
                          clear hdr hne hsp hx hy hdr2 hdr3
                          go_wp2_with fail
                          refine (VS.out _).mono ?_
                          rintro x w2 ⟨rfl, rfl⟩
                          go_wp2_with fail
                          refine (VU.out _).mono ?_
                          rintro x w2 ⟨rfl, hb⟩
                          have HOx := Lib.hid (HO.out.below hb)
                          have HBx := Lib.hid (HB.out.trans (hb.mono HB.out.size))
                          clear hb HO HB
                          have HO := HOx
                          have HB := HBx
                          clear HOx HBx
                          obtain ⟨a3, c3, w3, hrun, hown, hb3⟩ := own_push (T := 114) (tx := 114) Tryz.underlying114 Tryz.underlying114 HI.out.1 HI.out.2.1 HI.out.2.2.1 HI.out.2.2.2 rfl HO.out HB.out.size (Mt.cs_one _) #[.int .u8 (g.toNat : Int)] rfl (by simp [Value.oneCell']) (by omega) (by omega)
                          have HO3 := Lib.hid hown
                          have HB3 := Lib.hid (HB.out.trans hb3)
                          clear hown hb3
                          go_wp2_with (refine wpList_append_run rfl _ _ 114 114 rfl _ _ rfl rfl hrun ?_)
                          go_roundw
                          case rel => exact ⟨p + 3, o ++ [g], a3, c3, by first | rfl | (congr 1; push_cast; omega) | go_num, by rw [List.length_append]; rfl, by rw [hoe], by omega, by rw [List.length_append, List.length_singleton]; omega, by rw [List.length_append, Mt.cs_append]; exact HO3, HR2, HB3⟩
                          case measure => simp [intOf]; omega
                    · have l4 : decide ((s.size : Int) < (p : Int) + 1 + 2) = true := decide_eq_true (by omega)
                      have HF : Hid (rvalV s.size R = .tuple #[.string ByteArray.empty, .int .i64 0, .bool false]) := Lib.hid (by
                        have hnil : s.data.toList.drop (p + 1 + 1) = [] := List.drop_eq_nil_of_le (by have := HLL.out; omega)
                        rw [hnil] at hdr
                        rw [← HR.out, hdr]
                        rw [hdr] at hne
                        simp [Mt.valF, hne, Mt.byteL, hsp]; rfl)
                      clear hdr hne hsp hdr2
                      go_wp2_with fail
                      refine (VS.out _).mono ?_
                      rintro x w2 ⟨rfl, rfl⟩
                      go_wp2_with fail
                      exact bodyPost_ret (v := .tuple #[.string ByteArray.empty, .int .i64 0, .bool false]) (by simp [results, Tryz.results45, go_sem]; rfl) rfl ⟨by rw [HF.out], HB.out⟩
                  · rw [hsp] at VS
                    have HR2 : Hid (Mt.valF ((s.data.toList.drop (p + 2)).length + 1) (o ++ [d]) (s.data.toList.drop (p + 2)) = R) := Lib.hid (by
                      have hlen : (s.data.toList.drop p).length = (s.data.toList.drop (p + 2)).length + 2 := by rw [hdr]; rfl
                      have hbl : Mt.byteL (s.data.toList.drop p) = some (d, 2) := by rw [hdr]; simp [Mt.byteL, hsp]
                      have hdd : (s.data.toList.drop p).drop 2 = s.data.toList.drop (p + 2) := by rw [List.drop_drop]
                      rw [← HR.out, hlen, Mt.valF_step' hne hbl (by simp), hdd]
                      exact Mt.valF_more _ _ _ _ (by omega) (by omega))
                    clear hdr hne hsp hdr2
                    go_wp2_with fail
                    refine (VS.out _).mono ?_
                    rintro x w2 ⟨rfl, rfl⟩
                    obtain ⟨a3, c3, w3, hrun, hown, hb3⟩ := own_push (T := 114) (tx := 114) Tryz.underlying114 Tryz.underlying114 HI.out.1 HI.out.2.1 HI.out.2.2.1 HI.out.2.2.2 rfl HO.out HB.out.size (Mt.cs_one _) #[.int .u8 (d.toNat : Int)] rfl (by simp [Value.oneCell']) (by omega) (by omega)
                    have HO3 := Lib.hid hown
                    have HB3 := Lib.hid (HB.out.trans hb3)
                    clear hown hb3
                    go_wp2_with (refine wpList_append_run rfl _ _ 114 114 rfl _ _ rfl rfl hrun ?_)
                    go_roundw
                    case rel => exact ⟨p + 2, o ++ [d], a3, c3, by first | rfl | (congr 1; push_cast; omega) | go_num, by rw [List.length_append]; rfl, by rw [hoe], by omega, by rw [List.length_append, List.length_singleton]; omega, by rw [List.length_append, Mt.cs_append]; exact HO3, HR2, HB3⟩
                    case measure => simp [intOf]; omega
                · rw [decide_eq_false h92] at hc0
                  have HG0 := Lib.hid (Mt.in_q ⟨b.toNat, b.toNat_lt⟩)
                  have HG1 := Lib.hid (Mt.in_b ⟨b.toNat, b.toNat_lt⟩)
                  simp only [UInt8.ofNat_toNat] at HG0 HG1
                  have VQ := Lib.hid (fun u => rin_any b ⟨#[34, 59, 60, 62]⟩ u (by simp [ByteArray.size]))
                  have VB := Lib.hid (fun u => rin_any b ⟨#[32, 35]⟩ u (by simp [ByteArray.size]))
                  have eQ : (⟨#[34, 59, 60, 62]⟩ : ByteArray).data.toList = [34, 59, 60, 62] := rfl
                  have eB : (⟨#[32, 35]⟩ : ByteArray).data.toList = [32, 35] := rfl
                  rw [eQ, HG0.out] at VQ
                  rw [eB, HG1.out] at VB
                  clear eQ eB HG0 HG1
                  have HBL : Hid (Mt.byteL (s.data.toList.drop p) = some (b, 1)) := Lib.hid (by
                    rw [hdr]; simp only [Mt.byteL]; rw [if_pos (fun e => h92 (by rw [e]; rfl))])
                  have HD1 : Hid ((s.data.toList.drop p).drop 1 = s.data.toList.drop (p + 1)) := Lib.hid (by rw [List.drop_drop])
                  have HNO : Hid (Mt.guardN b.toNat o.isEmpty true = true → rvalV s.size R = .tuple #[.string ByteArray.empty, .int .i64 0, .bool false]) := Lib.hid (fun h => by
                    rw [← HR.out]; simp only [Mt.valF, hne, HBL.out, HD1.out, HL1.out, h]; rfl)
                  have HYES : Hid (Mt.guardN b.toNat o.isEmpty true = false → Mt.valF ((s.data.toList.drop (p + 1)).length + 1) (o ++ [b]) (s.data.toList.drop (p + 1)) = R) := Lib.hid (fun h => by
                    have hlen : (s.data.toList.drop p).length = (s.data.toList.drop (p + 1)).length + 1 := by rw [hdr]; rfl
                    rw [← HR.out, hlen, Mt.valF_step' hne HBL.out (by rw [HD1.out, HL1.out, h]; rfl), HD1.out])
                  clear hdr hne HBL HD1 HL1
                  by_cases b0 : b.toNat = 0
                  · have HF := Lib.hid (HNO.out (by simp [Mt.guardN, b0]))
                    have f0 : ((b.toNat : Int) == 0) = true := by simp [b0]
                    clear b0 HNO HYES
                    go_wp2_with fail
                    exact bodyPost_ret (v := .tuple #[.string ByteArray.empty, .int .i64 0, .bool false]) (by simp [results, Tryz.results45, go_sem]; rfl) rfl ⟨by rw [HF.out], HB.out⟩
                  · have f0 : ((b.toNat : Int) == 0) = false := by simp; omega
                    by_cases bq : b.toNat = 34 ∨ b.toNat = 59 ∨ b.toNat = 60 ∨ b.toNat = 62
                    · have HF := Lib.hid (HNO.out (by simp only [Mt.guardN, Bool.or_eq_true, decide_eq_true_eq]; omega))
                      rw [decide_eq_true bq] at VQ
                      clear b0 bq HNO HYES
                      go_wp2_with fail
                      refine (VQ.out _).mono ?_
                      rintro x w2 ⟨rfl, rfl⟩
                      go_wp2_with fail
                      exact bodyPost_ret (v := .tuple #[.string ByteArray.empty, .int .i64 0, .bool false]) (by simp [results, Tryz.results45, go_sem]; rfl) rfl ⟨by rw [HF.out], HB.out⟩
                    · rw [decide_eq_false bq] at VQ
                      by_cases b32 : b.toNat = 32
                      · have f32 : ((b.toNat : Int) == 32) = true := by simp [b32]
                        rw [decide_eq_true (show b.toNat = 32 ∨ b.toNat = 35 from .inl b32)] at VB
                        cases hoB : o.isEmpty
                        · have HF := Lib.hid (HNO.out (by rw [hoB]; simp [Mt.guardN, b32]))
                          clear b0 bq b32 HNO HYES hoB
                          go_wp2_with fail
                          refine (VQ.out _).mono ?_
                          rintro x w2 ⟨rfl, rfl⟩
                          go_wp2_with fail
                          exact bodyPost_ret (v := .tuple #[.string ByteArray.empty, .int .i64 0, .bool false]) (by simp [results, Tryz.results45, go_sem]; rfl) rfl ⟨by rw [HF.out], HB.out⟩
                        · have HF := Lib.hid (HNO.out (by rw [hoB]; simp [Mt.guardN, b32]))
                          clear b0 bq b32 HNO HYES hoB
                          go_wp2_with fail
                          refine (VQ.out _).mono ?_
                          rintro x w2 ⟨rfl, rfl⟩
                          go_wp2_with fail
                          refine (VB.out _).mono ?_
                          rintro x w2 ⟨rfl, rfl⟩
                          go_wp2_with fail
                          exact bodyPost_ret (v := .tuple #[.string ByteArray.empty, .int .i64 0, .bool false]) (by simp [results, Tryz.results45, go_sem]; rfl) rfl ⟨by rw [HF.out], HB.out⟩
                      · have f32 : ((b.toNat : Int) == 32) = false := by simp; omega
                        by_cases b35 : b.toNat = 35
                        · rw [decide_eq_true (show b.toNat = 32 ∨ b.toNat = 35 from .inr b35)] at VB
                          cases hoB : o.isEmpty
                          · have HR2 : Hid (Mt.valF ((s.data.toList.drop (p + 1)).length + 1) (o ++ [b]) (s.data.toList.drop (p + 1)) = R) := Lib.hid (HYES.out (by rw [hoB]; simp [Mt.guardN, b35]))
                            clear b0 bq b32 b35 HNO HYES
                            clear hoB
                            go_wp2_with fail
                            refine (VQ.out _).mono ?_
                            rintro x w2 ⟨rfl, rfl⟩
                            obtain ⟨a3, c3, w3, hrun, hown, hb3⟩ := own_push (T := 114) (tx := 114) Tryz.underlying114 Tryz.underlying114 HI.out.1 HI.out.2.1 HI.out.2.2.1 HI.out.2.2.2 rfl HO.out HB.out.size (Mt.cs_one _) #[.int .u8 (b.toNat : Int)] rfl (by simp [Value.oneCell']) (by omega) (by omega)
                            have HO3 := Lib.hid hown
                            have HB3 := Lib.hid (HB.out.trans hb3)
                            clear hown hb3
                            go_wp2_with (refine wpList_append_run rfl _ _ 114 114 rfl _ _ rfl rfl hrun ?_)
                            go_roundw
                            case rel => exact ⟨p + 1, o ++ [b], a3, c3, by first | rfl | (congr 1; push_cast; omega) | go_num, by rw [List.length_append]; rfl, by rw [hoe], by omega, by rw [List.length_append, List.length_singleton]; omega, by rw [List.length_append, Mt.cs_append]; exact HO3, HR2, HB3⟩
                            case measure => simp [intOf]; omega
                          · have HF := Lib.hid (HNO.out (by rw [hoB]; simp [Mt.guardN, b35]))
                            clear b0 bq b32 b35 HNO HYES hoB
                            go_wp2_with fail
                            refine (VQ.out _).mono ?_
                            rintro x w2 ⟨rfl, rfl⟩
                            go_wp2_with fail
                            refine (VB.out _).mono ?_
                            rintro x w2 ⟨rfl, rfl⟩
                            go_wp2_with fail
                            exact bodyPost_ret (v := .tuple #[.string ByteArray.empty, .int .i64 0, .bool false]) (by simp [results, Tryz.results45, go_sem]; rfl) rfl ⟨by rw [HF.out], HB.out⟩
                        · rw [decide_eq_false (show ¬ (b.toNat = 32 ∨ b.toNat = 35) by omega)] at VB
                          have HR2 : Hid (Mt.valF ((s.data.toList.drop (p + 1)).length + 1) (o ++ [b]) (s.data.toList.drop (p + 1)) = R) := Lib.hid (HYES.out (by
                            simp only [Mt.guardN, Bool.or_eq_false_iff, Bool.and_eq_false_iff, decide_eq_false_iff_not]; omega))
                          cases hoB : o.isEmpty
                          · clear b0 bq b32 b35 HNO HYES hoB
                            go_wp2_with fail
                            refine (VQ.out _).mono ?_
                            rintro x w2 ⟨rfl, rfl⟩
                            obtain ⟨a3, c3, w3, hrun, hown, hb3⟩ := own_push (T := 114) (tx := 114) Tryz.underlying114 Tryz.underlying114 HI.out.1 HI.out.2.1 HI.out.2.2.1 HI.out.2.2.2 rfl HO.out HB.out.size (Mt.cs_one _) #[.int .u8 (b.toNat : Int)] rfl (by simp [Value.oneCell']) (by omega) (by omega)
                            have HO3 := Lib.hid hown
                            have HB3 := Lib.hid (HB.out.trans hb3)
                            clear hown hb3
                            go_wp2_with (refine wpList_append_run rfl _ _ 114 114 rfl _ _ rfl rfl hrun ?_)
                            go_roundw
                            case rel => exact ⟨p + 1, o ++ [b], a3, c3, by first | rfl | (congr 1; push_cast; omega) | go_num, by rw [List.length_append]; rfl, by rw [hoe], by omega, by rw [List.length_append, List.length_singleton]; omega, by rw [List.length_append, Mt.cs_append]; exact HO3, HR2, HB3⟩
                            case measure => simp [intOf]; omega
                          · clear b0 bq b32 b35 HNO HYES hoB
                            go_wp2_with fail
                            refine (VQ.out _).mono ?_
                            rintro x w2 ⟨rfl, rfl⟩
                            go_wp2_with fail
                            refine (VB.out _).mono ?_
                            rintro x w2 ⟨rfl, rfl⟩
                            obtain ⟨a3, c3, w3, hrun, hown, hb3⟩ := own_push (T := 114) (tx := 114) Tryz.underlying114 Tryz.underlying114 HI.out.1 HI.out.2.1 HI.out.2.2.1 HI.out.2.2.2 rfl HO.out HB.out.size (Mt.cs_one _) #[.int .u8 (b.toNat : Int)] rfl (by simp [Value.oneCell']) (by omega) (by omega)
                            have HO3 := Lib.hid hown
                            have HB3 := Lib.hid (HB.out.trans hb3)
                            clear hown hb3
                            go_wp2_with (refine wpList_append_run rfl _ _ 114 114 rfl _ _ rfl rfl hrun ?_)
                            go_roundw
                            case rel => exact ⟨p + 1, o ++ [b], a3, c3, by first | rfl | (congr 1; push_cast; omega) | go_num, by rw [List.length_append]; rfl, by rw [hoe], by omega, by rw [List.length_append, List.length_singleton]; omega, by rw [List.length_append, Mt.cs_append]; exact HO3, HR2, HB3⟩
                            case measure => simp [intOf]; omega
              · have y2 : ((d.toNat : Int) == 43) = false := by simp; omega
                have HL1 : Hid (Mt.endsL (s.data.toList.drop (p + 1)) = false) := Lib.hid (by rw [hend2]; simp [d44, d43])
                clear hend2 d44 d43 hA
                by_cases h92 : b.toNat = 92
                · have hc92 : b = 92 := Mt.u8_ext (by show b.toNat = 92; exact h92)
                  rw [decide_eq_true h92] at hc0
                  have HSP := Lib.hid (Mt.in_spec ⟨d.toNat, d.toNat_lt⟩)
                  simp only [UInt8.ofNat_toNat] at HSP
                  have VS := Lib.hid (fun u => rin_any d ⟨#[34, 43, 44, 59, 60, 62, 92, 32, 35, 61]⟩ u (by simp [ByteArray.size]))
                  have eS : (⟨#[34, 43, 44, 59, 60, 62, 92, 32, 35, 61]⟩ : ByteArray).data.toList = [34, 43, 44, 59, 60, 62, 92, 32, 35, 61] := rfl
                  rw [eS, HSP.out] at VS
                  have l3 : decide ((p : Int) + 1 < (s.size : Int)) = true := decide_eq_true (by omega)
                  have hdr2 := Mt.drop_cons s (p + 1) hB
                  rw [hd] at hdr2
                  rw [hdr2, hc92] at hdr
                  have hoe2 : o.length ≤ p := hop
                  clear eS HSP HL1
                  cases hsp : Mt.specN d.toNat
                  · rw [hsp] at VS
                    by_cases h3 : p + 2 < s.size
                    · obtain ⟨e, he⟩ : ∃ e, s[p + 2] = e := ⟨_, rfl⟩
                      have hdr3 := Mt.drop_cons s (p + 2) h3
                      rw [he] at hdr3
                      rw [hdr3] at hdr
                      have l4 : decide ((s.size : Int) < (p : Int) + 1 + 2) = false := decide_eq_false (by omega)
                      have hx2 := Mt.extract_two s p h3
                      rw [hd, he] at hx2
                      have hx2' : s.extract (p + 1) (p + 1 + 2) = Mt.str [d, e] := hx2
                      have htn2 : ((p : Int) + 1 + 2).toNat = p + 3 := by omega
                      have hj2 : (p : Int) + 1 + 2 ≤ (s.size : Int) := by omega
                      have hj3 : (0 : Int) ≤ (p : Int) + 1 + 2 := by omega
                      have hj4 : (p : Int) + 1 ≤ (p : Int) + 1 + 2 := by omega
                      have VU := Lib.hid (fun u => runhex_any (Mt.str [d, e]) u (by rw [Mt.str_size]; simp))
                      rw [Mt.str_data, Mt.unhex_two] at VU
                      cases hx : Mt.hv d.toNat with
                      | none =>
                        simp only [hx] at VU
                        have HF : Hid (rvalV s.size R = .tuple #[.string ByteArray.empty, .int .i64 0, .bool false]) := Lib.hid (by
                          rw [← HR.out, hdr]
                          rw [hdr] at hne
                          simp [Mt.valF, hne, Mt.byteL, hsp, hx]; rfl)
                        clear hdr hne hsp hx hdr2 hdr3
                        go_wp2_with fail
                        refine (VS.out _).mono ?_
                        rintro x w2 ⟨rfl, rfl⟩
                        go_wp2_with fail
                        refine (VU.out _).mono ?_
                        rintro x w2 ⟨rfl, hb⟩
                        have HOx := Lib.hid (HO.out.below hb)
                        have HBx := Lib.hid (HB.out.trans (hb.mono HB.out.size))
                        clear hb HO HB
                        have HO := HOx
                        have HB := HBx
                        clear HOx HBx
                        go_wp2_with fail
                        exact bodyPost_ret (v := .tuple #[.string ByteArray.empty, .int .i64 0, .bool false]) (by simp [results, Tryz.results45, go_sem]; rfl) rfl ⟨by rw [HF.out], HB.out⟩
                      | some x =>
                        cases hy : Mt.hv e.toNat with
                        | none =>
                          simp only [hx, hy] at VU
                          have HF : Hid (rvalV s.size R = .tuple #[.string ByteArray.empty, .int .i64 0, .bool false]) := Lib.hid (by
                            rw [← HR.out, hdr]
                            rw [hdr] at hne
                            simp [Mt.valF, hne, Mt.byteL, hsp, hx, hy]; rfl)
                          clear hdr hne hsp hx hy hdr2 hdr3
                          go_wp2_with fail
                          refine (VS.out _).mono ?_
                          rintro x w2 ⟨rfl, rfl⟩
                          go_wp2_with fail
                          refine (VU.out _).mono ?_
                          rintro x w2 ⟨rfl, hb⟩
                          have HOx := Lib.hid (HO.out.below hb)
                          have HBx := Lib.hid (HB.out.trans (hb.mono HB.out.size))
                          clear hb HO HB
                          have HO := HOx
                          have HB := HBx
                          clear HOx HBx
                          go_wp2_with fail
                          exact bodyPost_ret (v := .tuple #[.string ByteArray.empty, .int .i64 0, .bool false]) (by simp [results, Tryz.results45, go_sem]; rfl) rfl ⟨by rw [HF.out], HB.out⟩
                        | some y =>
                          simp only [hx, hy] at VU
                          have HR2 : Hid (Mt.valF ((s.data.toList.drop (p + 3)).length + 1) (o ++ [UInt8.ofNat (16 * x + y)]) (s.data.toList.drop (p + 3)) = R) := Lib.hid (by
                            have hlen : (s.data.toList.drop p).length = (s.data.toList.drop (p + 3)).length + 3 := by rw [hdr]; rfl
                            have hbl : Mt.byteL (s.data.toList.drop p) = some (UInt8.ofNat (16 * x + y), 3) := by rw [hdr]; simp [Mt.byteL, hsp, hx, hy]
                            have hdd : (s.data.toList.drop p).drop 3 = s.data.toList.drop (p + 3) := by rw [List.drop_drop]
                            rw [← HR.out, hlen, Mt.valF_step' hne hbl (by simp), hdd]
                            exact Mt.valF_more _ _ _ _ (by omega) (by omega))
                          generalize UInt8.ofNat (16 * x + y) = g at *
                          have hg0 : (Mt.str [g]).size = 1 := by rw [Mt.str_size]; rfl
                          have hg1 : 0 < (Mt.str [g]).size := by omega
                          have hg : (Mt.str [g])[0] = g := rfl
                          clear hdr hne hsp hx hy hdr2 hdr3
                          go_wp2_with fail
                          refine (VS.out _).mono ?_
                          rintro x w2 ⟨rfl, rfl⟩
                          go_wp2_with fail
                          refine (VU.out _).mono ?_
                          rintro x w2 ⟨rfl, hb⟩
                          have HOx := Lib.hid (HO.out.below hb)
                          have HBx := Lib.hid (HB.out.trans (hb.mono HB.out.size))
                          clear hb HO HB
                          have HO := HOx
                          have HB := HBx
                          clear HOx HBx
                          obtain ⟨a3, c3, w3, hrun, hown, hb3⟩ := own_push (T := 114) (tx := 114) Tryz.underlying114 Tryz.underlying114 HI.out.1 HI.out.2.1 HI.out.2.2.1 HI.out.2.2.2 rfl HO.out HB.out.size (Mt.cs_one _) #[.int .u8 (g.toNat : Int)] rfl (by simp [Value.oneCell']) (by omega) (by omega)
                          have HO3 := Lib.hid hown
                          have HB3 := Lib.hid (HB.out.trans hb3)
                          clear hown hb3
                          go_wp2_with (refine wpList_append_run rfl _ _ 114 114 rfl _ _ rfl rfl hrun ?_)
                          go_roundw
                          case rel => exact ⟨p + 3, o ++ [g], a3, c3, by first | rfl | (congr 1; push_cast; omega) | go_num, by rw [List.length_append]; rfl, by rw [hoe], by omega, by rw [List.length_append, List.length_singleton]; omega, by rw [List.length_append, Mt.cs_append]; exact HO3, HR2, HB3⟩
                          case measure => simp [intOf]; omega
                    · have l4 : decide ((s.size : Int) < (p : Int) + 1 + 2) = true := decide_eq_true (by omega)
                      have HF : Hid (rvalV s.size R = .tuple #[.string ByteArray.empty, .int .i64 0, .bool false]) := Lib.hid (by
                        have hnil : s.data.toList.drop (p + 1 + 1) = [] := List.drop_eq_nil_of_le (by have := HLL.out; omega)
                        rw [hnil] at hdr
                        rw [← HR.out, hdr]
                        rw [hdr] at hne
                        simp [Mt.valF, hne, Mt.byteL, hsp]; rfl)
                      clear hdr hne hsp hdr2
                      go_wp2_with fail
                      refine (VS.out _).mono ?_
                      rintro x w2 ⟨rfl, rfl⟩
                      go_wp2_with fail
                      exact bodyPost_ret (v := .tuple #[.string ByteArray.empty, .int .i64 0, .bool false]) (by simp [results, Tryz.results45, go_sem]; rfl) rfl ⟨by rw [HF.out], HB.out⟩
                  · rw [hsp] at VS
                    have HR2 : Hid (Mt.valF ((s.data.toList.drop (p + 2)).length + 1) (o ++ [d]) (s.data.toList.drop (p + 2)) = R) := Lib.hid (by
                      have hlen : (s.data.toList.drop p).length = (s.data.toList.drop (p + 2)).length + 2 := by rw [hdr]; rfl
                      have hbl : Mt.byteL (s.data.toList.drop p) = some (d, 2) := by rw [hdr]; simp [Mt.byteL, hsp]
                      have hdd : (s.data.toList.drop p).drop 2 = s.data.toList.drop (p + 2) := by rw [List.drop_drop]
                      rw [← HR.out, hlen, Mt.valF_step' hne hbl (by simp), hdd]
                      exact Mt.valF_more _ _ _ _ (by omega) (by omega))
                    clear hdr hne hsp hdr2
                    go_wp2_with fail
                    refine (VS.out _).mono ?_
                    rintro x w2 ⟨rfl, rfl⟩
                    obtain ⟨a3, c3, w3, hrun, hown, hb3⟩ := own_push (T := 114) (tx := 114) Tryz.underlying114 Tryz.underlying114 HI.out.1 HI.out.2.1 HI.out.2.2.1 HI.out.2.2.2 rfl HO.out HB.out.size (Mt.cs_one _) #[.int .u8 (d.toNat : Int)] rfl (by simp [Value.oneCell']) (by omega) (by omega)
                    have HO3 := Lib.hid hown
                    have HB3 := Lib.hid (HB.out.trans hb3)
                    clear hown hb3
                    go_wp2_with (refine wpList_append_run rfl _ _ 114 114 rfl _ _ rfl rfl hrun ?_)
                    go_roundw
                    case rel => exact ⟨p + 2, o ++ [d], a3, c3, by first | rfl | (congr 1; push_cast; omega) | go_num, by rw [List.length_append]; rfl, by rw [hoe], by omega, by rw [List.length_append, List.length_singleton]; omega, by rw [List.length_append, Mt.cs_append]; exact HO3, HR2, HB3⟩
                    case measure => simp [intOf]; omega
                · rw [decide_eq_false h92] at hc0
                  have HG0 := Lib.hid (Mt.in_q ⟨b.toNat, b.toNat_lt⟩)
                  have HG1 := Lib.hid (Mt.in_b ⟨b.toNat, b.toNat_lt⟩)
                  simp only [UInt8.ofNat_toNat] at HG0 HG1
                  have VQ := Lib.hid (fun u => rin_any b ⟨#[34, 59, 60, 62]⟩ u (by simp [ByteArray.size]))
                  have VB := Lib.hid (fun u => rin_any b ⟨#[32, 35]⟩ u (by simp [ByteArray.size]))
                  have eQ : (⟨#[34, 59, 60, 62]⟩ : ByteArray).data.toList = [34, 59, 60, 62] := rfl
                  have eB : (⟨#[32, 35]⟩ : ByteArray).data.toList = [32, 35] := rfl
                  rw [eQ, HG0.out] at VQ
                  rw [eB, HG1.out] at VB
                  clear eQ eB HG0 HG1
                  have HBL : Hid (Mt.byteL (s.data.toList.drop p) = some (b, 1)) := Lib.hid (by
                    rw [hdr]; simp only [Mt.byteL]; rw [if_pos (fun e => h92 (by rw [e]; rfl))])
                  have HD1 : Hid ((s.data.toList.drop p).drop 1 = s.data.toList.drop (p + 1)) := Lib.hid (by rw [List.drop_drop])
                  have HNO : Hid (Mt.guardN b.toNat o.isEmpty false = true → rvalV s.size R = .tuple #[.string ByteArray.empty, .int .i64 0, .bool false]) := Lib.hid (fun h => by
                    rw [← HR.out]; simp only [Mt.valF, hne, HBL.out, HD1.out, HL1.out, h]; rfl)
                  have HYES : Hid (Mt.guardN b.toNat o.isEmpty false = false → Mt.valF ((s.data.toList.drop (p + 1)).length + 1) (o ++ [b]) (s.data.toList.drop (p + 1)) = R) := Lib.hid (fun h => by
                    have hlen : (s.data.toList.drop p).length = (s.data.toList.drop (p + 1)).length + 1 := by rw [hdr]; rfl
                    rw [← HR.out, hlen, Mt.valF_step' hne HBL.out (by rw [HD1.out, HL1.out, h]; rfl), HD1.out])
                  clear hdr hne HBL HD1 HL1
                  by_cases b0 : b.toNat = 0
                  · have HF := Lib.hid (HNO.out (by simp [Mt.guardN, b0]))
                    have f0 : ((b.toNat : Int) == 0) = true := by simp [b0]
                    clear b0 HNO HYES
                    go_wp2_with fail
                    exact bodyPost_ret (v := .tuple #[.string ByteArray.empty, .int .i64 0, .bool false]) (by simp [results, Tryz.results45, go_sem]; rfl) rfl ⟨by rw [HF.out], HB.out⟩
                  · have f0 : ((b.toNat : Int) == 0) = false := by simp; omega
                    by_cases bq : b.toNat = 34 ∨ b.toNat = 59 ∨ b.toNat = 60 ∨ b.toNat = 62
                    · have HF := Lib.hid (HNO.out (by simp only [Mt.guardN, Bool.or_eq_true, decide_eq_true_eq]; omega))
                      rw [decide_eq_true bq] at VQ
                      clear b0 bq HNO HYES
                      go_wp2_with fail
                      refine (VQ.out _).mono ?_
                      rintro x w2 ⟨rfl, rfl⟩
                      go_wp2_with fail
                      exact bodyPost_ret (v := .tuple #[.string ByteArray.empty, .int .i64 0, .bool false]) (by simp [results, Tryz.results45, go_sem]; rfl) rfl ⟨by rw [HF.out], HB.out⟩
                    · rw [decide_eq_false bq] at VQ
                      by_cases b32 : b.toNat = 32
                      · have f32 : ((b.toNat : Int) == 32) = true := by simp [b32]
                        rw [decide_eq_true (show b.toNat = 32 ∨ b.toNat = 35 from .inl b32)] at VB
                        cases hoB : o.isEmpty
                        · have HR2 : Hid (Mt.valF ((s.data.toList.drop (p + 1)).length + 1) (o ++ [b]) (s.data.toList.drop (p + 1)) = R) := Lib.hid (HYES.out (by rw [hoB]; simp [Mt.guardN, b32]))
                          clear b0 bq b32 HNO HYES hoB
                          go_wp2_with fail
                          refine (VQ.out _).mono ?_
                          rintro x w2 ⟨rfl, rfl⟩
                          obtain ⟨a3, c3, w3, hrun, hown, hb3⟩ := own_push (T := 114) (tx := 114) Tryz.underlying114 Tryz.underlying114 HI.out.1 HI.out.2.1 HI.out.2.2.1 HI.out.2.2.2 rfl HO.out HB.out.size (Mt.cs_one _) #[.int .u8 (b.toNat : Int)] rfl (by simp [Value.oneCell']) (by omega) (by omega)
                          have HO3 := Lib.hid hown
                          have HB3 := Lib.hid (HB.out.trans hb3)
                          clear hown hb3
                          go_wp2_with (refine wpList_append_run rfl _ _ 114 114 rfl _ _ rfl rfl hrun ?_)
                          go_roundw
                          case rel => exact ⟨p + 1, o ++ [b], a3, c3, by first | rfl | (congr 1; push_cast; omega) | go_num, by rw [List.length_append]; rfl, by rw [hoe], by omega, by rw [List.length_append, List.length_singleton]; omega, by rw [List.length_append, Mt.cs_append]; exact HO3, HR2, HB3⟩
                          case measure => simp [intOf]; omega
                        · have HF := Lib.hid (HNO.out (by rw [hoB]; simp [Mt.guardN, b32]))
                          clear b0 bq b32 HNO HYES hoB
                          go_wp2_with fail
                          refine (VQ.out _).mono ?_
                          rintro x w2 ⟨rfl, rfl⟩
                          go_wp2_with fail
                          refine (VB.out _).mono ?_
                          rintro x w2 ⟨rfl, rfl⟩
                          go_wp2_with fail
                          exact bodyPost_ret (v := .tuple #[.string ByteArray.empty, .int .i64 0, .bool false]) (by simp [results, Tryz.results45, go_sem]; rfl) rfl ⟨by rw [HF.out], HB.out⟩
                      · have f32 : ((b.toNat : Int) == 32) = false := by simp; omega
                        by_cases b35 : b.toNat = 35
                        · rw [decide_eq_true (show b.toNat = 32 ∨ b.toNat = 35 from .inr b35)] at VB
                          cases hoB : o.isEmpty
                          · have HR2 : Hid (Mt.valF ((s.data.toList.drop (p + 1)).length + 1) (o ++ [b]) (s.data.toList.drop (p + 1)) = R) := Lib.hid (HYES.out (by rw [hoB]; simp [Mt.guardN, b35]))
                            clear b0 bq b32 b35 HNO HYES
                            clear hoB
                            go_wp2_with fail
                            refine (VQ.out _).mono ?_
                            rintro x w2 ⟨rfl, rfl⟩
                            obtain ⟨a3, c3, w3, hrun, hown, hb3⟩ := own_push (T := 114) (tx := 114) Tryz.underlying114 Tryz.underlying114 HI.out.1 HI.out.2.1 HI.out.2.2.1 HI.out.2.2.2 rfl HO.out HB.out.size (Mt.cs_one _) #[.int .u8 (b.toNat : Int)] rfl (by simp [Value.oneCell']) (by omega) (by omega)
                            have HO3 := Lib.hid hown
                            have HB3 := Lib.hid (HB.out.trans hb3)
                            clear hown hb3
                            go_wp2_with (refine wpList_append_run rfl _ _ 114 114 rfl _ _ rfl rfl hrun ?_)
                            go_roundw
                            case rel => exact ⟨p + 1, o ++ [b], a3, c3, by first | rfl | (congr 1; push_cast; omega) | go_num, by rw [List.length_append]; rfl, by rw [hoe], by omega, by rw [List.length_append, List.length_singleton]; omega, by rw [List.length_append, Mt.cs_append]; exact HO3, HR2, HB3⟩
                            case measure => simp [intOf]; omega
                          · have HF := Lib.hid (HNO.out (by rw [hoB]; simp [Mt.guardN, b35]))
                            clear b0 bq b32 b35 HNO HYES hoB
                            go_wp2_with fail
                            refine (VQ.out _).mono ?_
                            rintro x w2 ⟨rfl, rfl⟩
                            go_wp2_with fail
                            refine (VB.out _).mono ?_
                            rintro x w2 ⟨rfl, rfl⟩
                            go_wp2_with fail
                            exact bodyPost_ret (v := .tuple #[.string ByteArray.empty, .int .i64 0, .bool false]) (by simp [results, Tryz.results45, go_sem]; rfl) rfl ⟨by rw [HF.out], HB.out⟩
                        · rw [decide_eq_false (show ¬ (b.toNat = 32 ∨ b.toNat = 35) by omega)] at VB
                          have HR2 : Hid (Mt.valF ((s.data.toList.drop (p + 1)).length + 1) (o ++ [b]) (s.data.toList.drop (p + 1)) = R) := Lib.hid (HYES.out (by
                            simp only [Mt.guardN, Bool.or_eq_false_iff, Bool.and_eq_false_iff, decide_eq_false_iff_not]; omega))
                          cases hoB : o.isEmpty
                          · clear b0 bq b32 b35 HNO HYES hoB
                            go_wp2_with fail
                            refine (VQ.out _).mono ?_
                            rintro x w2 ⟨rfl, rfl⟩
                            obtain ⟨a3, c3, w3, hrun, hown, hb3⟩ := own_push (T := 114) (tx := 114) Tryz.underlying114 Tryz.underlying114 HI.out.1 HI.out.2.1 HI.out.2.2.1 HI.out.2.2.2 rfl HO.out HB.out.size (Mt.cs_one _) #[.int .u8 (b.toNat : Int)] rfl (by simp [Value.oneCell']) (by omega) (by omega)
                            have HO3 := Lib.hid hown
                            have HB3 := Lib.hid (HB.out.trans hb3)
                            clear hown hb3
                            go_wp2_with (refine wpList_append_run rfl _ _ 114 114 rfl _ _ rfl rfl hrun ?_)
                            go_roundw
                            case rel => exact ⟨p + 1, o ++ [b], a3, c3, by first | rfl | (congr 1; push_cast; omega) | go_num, by rw [List.length_append]; rfl, by rw [hoe], by omega, by rw [List.length_append, List.length_singleton]; omega, by rw [List.length_append, Mt.cs_append]; exact HO3, HR2, HB3⟩
                            case measure => simp [intOf]; omega
                          · clear b0 bq b32 b35 HNO HYES hoB
                            go_wp2_with fail
                            refine (VQ.out _).mono ?_
                            rintro x w2 ⟨rfl, rfl⟩
                            go_wp2_with fail
                            refine (VB.out _).mono ?_
                            rintro x w2 ⟨rfl, rfl⟩
                            obtain ⟨a3, c3, w3, hrun, hown, hb3⟩ := own_push (T := 114) (tx := 114) Tryz.underlying114 Tryz.underlying114 HI.out.1 HI.out.2.1 HI.out.2.2.1 HI.out.2.2.2 rfl HO.out HB.out.size (Mt.cs_one _) #[.int .u8 (b.toNat : Int)] rfl (by simp [Value.oneCell']) (by omega) (by omega)
                            have HO3 := Lib.hid hown
                            have HB3 := Lib.hid (HB.out.trans hb3)
                            clear hown hb3
                            go_wp2_with (refine wpList_append_run rfl _ _ 114 114 rfl _ _ rfl rfl hrun ?_)
                            go_roundw
                            case rel => exact ⟨p + 1, o ++ [b], a3, c3, by first | rfl | (congr 1; push_cast; omega) | go_num, by rw [List.length_append]; rfl, by rw [hoe], by omega, by rw [List.length_append, List.length_singleton]; omega, by rw [List.length_append, Mt.cs_append]; exact HO3, HR2, HB3⟩
                            case measure => simp [intOf]; omega
    · have hF := HEND.out (by rw [List.drop_eq_nil_of_le (by have := HLL.out; omega)]; rfl)
      have HF : Hid (rvalV s.size R = .tuple #[.string (Mt.str o), .int .i64 p, .bool true]) := Lib.hid (by rw [hF.1]; simp only [rvalV, hF.2])
      clear hF
      go_wp2_with fail
      exact bodyPost_ret (v := .tuple #[.string (Mt.str o), .int .i64 p, .bool true]) (by simp [results, Tryz.results45, go_sem]) rfl ⟨by rw [HF.out], HB.out⟩
end Go.Proofs.YtngdbhncafnliaaGreat
