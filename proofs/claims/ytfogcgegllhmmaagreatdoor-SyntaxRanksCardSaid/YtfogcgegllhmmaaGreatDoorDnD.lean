/-
  What the call dn.readValue comes to.
-/
import Derived.Test.YtfogcgegllhmmaaGreatDoorDnC
import Derived.Test.YtfogcgegllhmmaaGreatDoorGp
namespace Go.Proofs.YtfogcgegllhmmaaGreatDoor
open Go.RowKit

/-- What readValue answers. -/
def valV : Option (List UInt8 × List UInt8) → Value
  | none => .tuple #[.string ByteArray.empty, .string ByteArray.empty, .bool false]
  | some (a, b) => .tuple #[.string (Mt.str a), .string (Mt.str b), .bool true]
theorem Mt.byte_size {l : List UInt8} {c : UInt8} {n : Nat} (h : Mt.byteL l = some (c, n)) : 1 ≤ n ∧ n ≤ l.length := by
  match l with
  | [] => simp [Mt.byteL] at h
  | c :: r =>
    simp only [Mt.byteL] at h
    split at h
    · cases h; simp
    · match r with
      | [] => simp at h
      | d :: r2 =>
        simp only at h
        split at h
        · cases h; simp
        · match r2 with
          | [] => simp at h
          | e :: r3 =>
            simp only at h
            split at h
            · cases h; simp
            · cases h
/-- The fuel plays no part. -/
theorem Mt.valF_more : ∀ (k m : Nat) (v l : List UInt8), l.length < k → l.length < m → Mt.valF k v l = Mt.valF m v l
  | 0, _, _, _, h, _ => by omega
  | _, 0, _, _, _, h => by omega
  | k + 1, m + 1, v, l, h1, h2 => by
    simp only [Mt.valF]
    split
    · rfl
    · cases hb : Mt.byteL l with
      | none => rfl
      | some p =>
        obtain ⟨c, n⟩ := p
        have hn := Mt.byte_size hb
        simp only
        split
        · rfl
        · exact Mt.valF_more k m _ _ (by rw [List.length_drop]; omega) (by rw [List.length_drop]; omega)

def szOf : Value → Nat | .string x => x.size | _ => 0
set_option maxRecDepth 100000 in
set_option maxHeartbeats 1000000 in
theorem readValue_any (s : ByteArray) (w : World) (hs : s.size ≤ 70368744177664) :
    Calls Tryz.prog 89 #[.string s] w fun e w' => e = .returned (valV (Mt.valL s.data.toList)) ∧ Below w.heap.size w w' := by
  obtain ⟨i0, hi, hz0, hz1, hz2⟩ := info_parts Tryz.infoU8
  have HI := Lib.hid (And.intro hi (And.intro hz0 (And.intro hz1 hz2)))
  clear hi hz0 hz1 hz2
  go_enter Tryz.func89, Tryz.ntmps89
  go_wp2_with fail
  go_loopw [0, 5] (fun sv v wr => ∃ (l o : List UInt8) (a : Option Addr) (c : Nat), sv = .string (Mt.str l) ∧ v = .slice a o.length c ∧ Hid (IsOwn 5 1 w.heap.size wr (.slice a o.length c) o.length (Mt.cs o)) ∧ o.length + l.length ≤ s.size ∧ Hid (Mt.valL s.data.toList = Mt.valF (l.length + 1) o l) ∧ Hid (Below w.heap.size w wr))
    (fun sv _ _ => szOf sv)
  case atStart => exact ⟨s.data.toList, [], none, 0, rfl, rfl, Lib.hid (IsOwn.nil _ _ _ _), by simp, Lib.hid rfl, Lib.hid (Below.refl _ _)⟩
  case round =>
    obtain ⟨l, o, a, c, rfl, rfl, HO, hlen, HV, HB⟩ := hrel
    have hll : (Mt.str l).size = l.length := Mt.str_size l
    have HE := Lib.hid (ends_any (Mt.str l) wr)
    rw [Mt.str_data] at HE
    obtain ⟨q, hq⟩ : ∃ q, Mt.endsL l = q := ⟨_, rfl⟩
    rw [hq] at HE
    cases q
    · have hl0 : 0 < l.length := by
        rcases Nat.eq_zero_or_pos l.length with h | h
        · have : l = [] := List.eq_nil_of_length_eq_zero h
          subst this; cases hq
        · exact h
      have HRB := Lib.hid (readByte_any (Mt.str l) wr (by rw [hll]; exact hl0) (by rw [hll]; omega))
      rw [Mt.str_data] at HRB
      cases hb : Mt.byteL l with
      | none =>
        rw [hb] at HRB
        have HF : Hid (Mt.valL s.data.toList = none) := by rw [HV.out]; simp only [Mt.valF, hq, hb]; exact Lib.hid rfl
        clear hq hb
        unfold byteV at HRB
        go_wp2_with fail
        refine (HE.out).mono ?_
        rintro e w2 ⟨rfl, rfl⟩
        go_wp2_with fail
        refine (HRB.out).mono ?_
        rintro e w2 ⟨rfl, hb⟩
        have HB2 := Lib.hid (HB.out.trans (hb.mono HB.out.size))
        clear hb
        go_wp2_with fail
        exact bodyPost_ret (v := valV none) (by simp [results, Tryz.results89, go_sem, valV]; rfl) rfl ⟨by rw [HF.out], HB2.out⟩
      | some p =>
        obtain ⟨b, n⟩ := p
        rw [hb] at HRB
        unfold byteV at HRB
        have hn := Mt.byte_size hb
        have hx : (Mt.str l).extract n (Mt.str l).size = Mt.str (l.drop n) := by rw [Mt.extract_drop, Mt.str_data]
        have HE2 := Lib.hid (fun u => ends_any (Mt.str (l.drop n)) u)
        rw [Mt.str_data] at HE2
        have HG := Lib.hid (fun f x u => guarded_int (b.toNat : Int) (by omega) f x u)
        rw [Int.toNat_natCast] at HG
        have ho0 : ((o.length : Int) == 0) = o.isEmpty := by rw [Bool.eq_iff_iff]; simp
        have hn1 : ((n : Int) == 1) = decide (n = 1) := by rw [Bool.eq_iff_iff]; simp; omega
        obtain ⟨z1, h1⟩ : ∃ z, o.isEmpty = z := ⟨_, rfl⟩
        obtain ⟨z2, h2⟩ : ∃ z, Mt.endsL (l.drop n) = z := ⟨_, rfl⟩
        obtain ⟨z3, h3⟩ : ∃ z, decide (n = 1) = z := ⟨_, rfl⟩
        obtain ⟨z4, h4⟩ : ∃ z, Mt.guardN b.toNat z1 z2 = z := ⟨_, rfl⟩
        have HVN : Hid (Mt.valL s.data.toList = if z3 && z4 then none else Mt.valF l.length (o ++ [b]) (l.drop n)) := by
          rw [HV.out]; simp only [Mt.valF, hq, hb, h1, h2, h3, h4]; exact Lib.hid rfl
        have HG2 := Lib.hid (fun u => HG.out z1 z2 u)
        rw [h4] at HG2
        rw [h2] at HE2
        rw [h1] at ho0
        rw [h3] at hn1
        have hnl : (n : Int) ≤ ((Mt.str l).size : Int) := by rw [hll]; omega
        have hnl2 : n ≤ (Mt.str l).size := by rw [hll]; omega
        have hn0 : (0 : Int) ≤ (n : Int) := by omega
        have HNL : Hid (1 ≤ n ∧ n ≤ l.length) := Lib.hid hn
        clear hq hb h1 h2 h3 h4 HG HV hll
        cases z3 <;> cases z4
        case true.true =>
          have HF : Hid (Mt.valL s.data.toList = none) := by rw [HVN.out]; exact Lib.hid rfl
          clear HVN
          go_wp2_with fail
          refine (HE.out).mono ?_
          rintro e w2 ⟨rfl, rfl⟩
          go_wp2_with fail
          refine (HRB.out).mono ?_
          rintro e w2 ⟨rfl, hb⟩
          have HB2 := Lib.hid (HB.out.trans (hb.mono HB.out.size))
          clear hb
          go_wp2_with fail
          refine (HE2.out _).mono ?_
          rintro e w3 ⟨rfl, rfl⟩
          go_wp2_with fail
          refine (HG2.out _).mono ?_
          rintro e w3 ⟨rfl, rfl⟩
          go_wp2_with fail
          exact bodyPost_ret (v := valV none) (by simp [results, Tryz.results89, go_sem, valV]; rfl) rfl ⟨by rw [HF.out], HB2.out⟩
        all_goals
          have HF : Hid (Mt.valL s.data.toList = Mt.valF ((l.drop n).length + 1) (o ++ [b]) (l.drop n)) := by
            rw [HVN.out]
            simp only [Bool.and_false, Bool.and_true, Bool.false_and, Bool.false_eq_true, if_false]
            exact Lib.hid (Mt.valF_more _ _ _ _ (by rw [List.length_drop]; omega) (by omega))
          have HPU := Lib.hid (fun (u : World) (hu : Below wr.heap.size wr u) => own_push (T := 65) (tx := 65) Tryz.underlying65 Tryz.underlying65 HI.out.1 HI.out.2.1 HI.out.2.2.1 HI.out.2.2.2 rfl (HO.out.below hu) (Nat.le_trans HB.out.size hu.size) (Mt.cs_one _) #[.int .u8 (b.toNat : Int)] rfl (by simp [Value.oneCell']) (by omega) (by omega))
          clear HVN
          go_wp2_with fail
          refine (HE.out).mono ?_
          rintro e w2 ⟨rfl, rfl⟩
          go_wp2_with fail
          refine (HRB.out).mono ?_
          rintro e w2 ⟨rfl, hb⟩
          have HB2 := Lib.hid hb
          clear hb
          go_wp2_with fail
          refine (HE2.out _).mono ?_
          rintro e w3 ⟨rfl, rfl⟩
          have HP3 := HPU.out _ ((HB2.out).drew)
          go_wp2_with (go_at_call 121; refine (HG2.out _).mono ?_; rintro e w3 ⟨rfl, rfl⟩)
          obtain ⟨a3, c3, w3, hrun, hown3, hb3⟩ := HP3
          have HO3 := Lib.hid hown3
          have HB3 := Lib.hid (((HB.out.trans (HB2.out.mono HB.out.size)).drew).trans hb3)
          clear hown3 hb3
          go_region_law (refine step_append_eq rfl _ _ 65 65 rfl _ _ (by rfl) (by rfl) hrun ?_)
          all_goals
            simp [Act.put]
            refine ⟨?_, ?measure⟩
            (repeat apply Exists.intro)
            refine ⟨?rel, rfl⟩
            case rel => exact ⟨l.drop n, o ++ [b], a3, c3, rfl, by simp, by have h := HO3.out; rw [List.length_append, List.length_singleton, Mt.cs_append]; exact Lib.hid h, by rw [List.length_drop, List.length_append, List.length_singleton]; have := HNL.out; omega, HF, HB3⟩
            case measure => simp [szOf, Mt.str_size]; have := HNL.out; omega
    · have HF : Hid (Mt.valL s.data.toList = some (o, l)) := by rw [HV.out]; simp only [Mt.valF, hq]; exact Lib.hid rfl
      have hcv := own_conv HO.out
      clear hq hll
      go_wp2_with fail
      refine (HE.out).mono ?_
      rintro e w2 ⟨rfl, rfl⟩
      go_wp2_with fail
      exact bodyPost_ret (v := valV (some (o, l))) (by simp [results, Tryz.results89, go_sem, valV]) rfl ⟨by rw [HF.out], HB.out⟩
end Go.Proofs.YtfogcgegllhmmaaGreatDoor
