/-
  Some texts of one proof, one behind the other.
-/
import Derived.Test.YtngdbhncafnliaaGreatPk6
import Derived.Test.YtngdbhncafnliaaGreatPk16
set_option linter.unusedVariables false
set_option linter.unusedSimpArgs false

/-
  What the call dn.readValue comes to.
-/
namespace Go.Proofs.YtngdbhncafnliaaGreat
open Go.RowKit

/-- What readValue answers. -/
def valV : Option (List UInt8 × List UInt8) → Value
  | none => .tuple #[.string ByteArray.empty, .string ByteArray.empty, .bool false]
  | some (a, b) => .tuple #[.string (Mt.str a), .string (Mt.str b), .bool true]
theorem Mt.byte_size {l : List UInt8} {c : UInt8} {n : Nat} (h : Mt.byteL l = some (c, n)) : 1 ≤ n ∧ n ≤ l.length := by
  match l with
  | [] => simp [Mt.byteL] at h
  | c :: r =>
    simp only [Mt.byteL] at h
    split at h
    · cases h; simp
    · match r with
      | [] => simp at h
      | d :: r2 =>
        simp only at h
        split at h
        · cases h; simp
        · match r2 with
          | [] => simp at h
          | e :: r3 =>
            simp only at h
            split at h
            · cases h; simp
            · cases h
/-- The fuel plays no part. -/
theorem Mt.valF_more : ∀ (k m : Nat) (v l : List UInt8), l.length < k → l.length < m → Mt.valF k v l = Mt.valF m v l
  | 0, _, _, _, h, _ => by omega
  | _, 0, _, _, _, h => by omega
  | k + 1, m + 1, v, l, h1, h2 => by
    simp only [Mt.valF]
    split
    · rfl
    · cases hb : Mt.byteL l with
      | none => rfl
      | some p =>
        obtain ⟨c, n⟩ := p
        have hn := Mt.byte_size hb
        simp only
        split
        · rfl
        · exact Mt.valF_more k m _ _ (by rw [List.length_drop]; omega) (by rw [List.length_drop]; omega)

def szOf : Value → Nat | .string x => x.size | _ => 0
set_option maxRecDepth 100000 in
set_option maxHeartbeats 1000000 in
theorem readValue_any (s : ByteArray) (w : World) (hs : s.size ≤ 70368744177664) :
    Calls Tryz.prog 101 #[.string s] w fun e w' => e = .returned (valV (Mt.valL s.data.toList)) ∧ Below w.heap.size w w' := by
  obtain ⟨i0, hi, hz0, hz1, hz2⟩ := info_parts Tryz.infoU8
  have HI := Lib.hid (And.intro hi (And.intro hz0 (And.intro hz1 hz2)))
  clear hi hz0 hz1 hz2
  go_enter Tryz.func101, Tryz.ntmps101
  go_wp2_with fail
  go_loopw [0, 5] (fun sv v wr => ∃ (l o : List UInt8) (a : Option Addr) (c : Nat), sv = .string (Mt.str l) ∧ v = .slice a o.length c ∧ Hid (IsOwn 5 1 w.heap.size wr (.slice a o.length c) o.length (Mt.cs o)) ∧ o.length + l.length ≤ s.size ∧ Hid (Mt.valL s.data.toList = Mt.valF (l.length + 1) o l) ∧ Hid (Below w.heap.size w wr))
    (fun sv _ _ => szOf sv)
  case atStart => exact ⟨s.data.toList, [], none, 0, rfl, rfl, Lib.hid (IsOwn.nil _ _ _ _), by simp, Lib.hid rfl, Lib.hid (Below.refl _ _)⟩
  case round =>
    obtain ⟨l, o, a, c, rfl, rfl, HO, hlen, HV, HB⟩ := hrel
    have hll : (Mt.str l).size = l.length := Mt.str_size l
    have HE := Lib.hid (ends_any (Mt.str l) wr)
    rw [Mt.str_data] at HE
    obtain ⟨q, hq⟩ : ∃ q, Mt.endsL l = q := ⟨_, rfl⟩
    rw [hq] at HE
    cases q
    · have hl0 : 0 < l.length := by
        rcases Nat.eq_zero_or_pos l.length with h | h
        · have : l = [] := List.eq_nil_of_length_eq_zero h
          subst this; cases hq
        · exact h
      have HRB := Lib.hid (readByte_any (Mt.str l) wr (by rw [hll]; exact hl0) (by rw [hll]; omega))
      rw [Mt.str_data] at HRB
      cases hb : Mt.byteL l with
      | none =>
        rw [hb] at HRB
        have HF : Hid (Mt.valL s.data.toList = none) := by rw [HV.out]; simp only [Mt.valF, hq, hb]; exact Lib.hid rfl
        clear hq hb
        unfold byteV at HRB
        go_wp2_with fail
        refine (HE.out).mono ?_
        rintro e w2 ⟨rfl, rfl⟩
        go_wp2_with fail
        refine (HRB.out).mono ?_
        rintro e w2 ⟨rfl, hb⟩
        have HB2 := Lib.hid (HB.out.trans (hb.mono HB.out.size))
        clear hb
        go_wp2_with fail
        exact bodyPost_ret (v := valV none) (by simp [results, Tryz.results101, go_sem, valV]; rfl) rfl ⟨by rw [HF.out], HB2.out⟩
      | some p =>
        obtain ⟨b, n⟩ := p
        rw [hb] at HRB
        unfold byteV at HRB
        have hn := Mt.byte_size hb
        have hx : (Mt.str l).extract n (Mt.str l).size = Mt.str (l.drop n) := by rw [Mt.extract_drop, Mt.str_data]
        have HE2 := Lib.hid (fun u => ends_any (Mt.str (l.drop n)) u)
        rw [Mt.str_data] at HE2
        have HG := Lib.hid (fun f x u => guarded_int (b.toNat : Int) (by omega) f x u)
        rw [Int.toNat_natCast] at HG
        have ho0 : ((o.length : Int) == 0) = o.isEmpty := by rw [Bool.eq_iff_iff]; simp
        have hn1 : ((n : Int) == 1) = decide (n = 1) := by rw [Bool.eq_iff_iff]; simp; omega
        obtain ⟨z1, h1⟩ : ∃ z, o.isEmpty = z := ⟨_, rfl⟩
        obtain ⟨z2, h2⟩ : ∃ z, Mt.endsL (l.drop n) = z := ⟨_, rfl⟩
        obtain ⟨z3, h3⟩ : ∃ z, decide (n = 1) = z := ⟨_, rfl⟩
        obtain ⟨z4, h4⟩ : ∃ z, Mt.guardN b.toNat z1 z2 = z := ⟨_, rfl⟩
        have HVN : Hid (Mt.valL s.data.toList = if z3 && z4 then none else Mt.valF l.length (o ++ [b]) (l.drop n)) := by
          rw [HV.out]; simp only [Mt.valF, hq, hb, h1, h2, h3, h4]; exact Lib.hid rfl
        have HG2 := Lib.hid (fun u => HG.out z1 z2 u)
        rw [h4] at HG2
        rw [h2] at HE2
        rw [h1] at ho0
        rw [h3] at hn1
        have hnl : (n : Int) ≤ ((Mt.str l).size : Int) := by rw [hll]; omega
        have hnl2 : n ≤ (Mt.str l).size := by rw [hll]; omega
        have hn0 : (0 : Int) ≤ (n : Int) := by omega
        have HNL : Hid (1 ≤ n ∧ n ≤ l.length) := Lib.hid hn
        clear hq hb h1 h2 h3 h4 HG HV hll
        cases z3 <;> cases z4
        case true.true =>
          have HF : Hid (Mt.valL s.data.toList = none) := by rw [HVN.out]; exact Lib.hid rfl
          clear HVN
          go_wp2_with fail
          refine (HE.out).mono ?_
          rintro e w2 ⟨rfl, rfl⟩
          go_wp2_with fail
          refine (HRB.out).mono ?_
          rintro e w2 ⟨rfl, hb⟩
          have HB2 := Lib.hid (HB.out.trans (hb.mono HB.out.size))
          clear hb
          go_wp2_with fail
          refine (HE2.out _).mono ?_
          rintro e w3 ⟨rfl, rfl⟩
          go_wp2_with fail
          refine (HG2.out _).mono ?_
          rintro e w3 ⟨rfl, rfl⟩
          go_wp2_with fail
          exact bodyPost_ret (v := valV none) (by simp [results, Tryz.results101, go_sem, valV]; rfl) rfl ⟨by rw [HF.out], HB2.out⟩
        all_goals
          have HF : Hid (Mt.valL s.data.toList = Mt.valF ((l.drop n).length + 1) (o ++ [b]) (l.drop n)) := by
            rw [HVN.out]
            simp only [Bool.and_false, Bool.and_true, Bool.false_and, Bool.false_eq_true, if_false]
            exact Lib.hid (Mt.valF_more _ _ _ _ (by rw [List.length_drop]; omega) (by omega))
          have HPU := Lib.hid (fun (u : World) (hu : Below wr.heap.size wr u) => own_push (T := 114) (tx := 114) Tryz.underlying114 Tryz.underlying114 HI.out.1 HI.out.2.1 HI.out.2.2.1 HI.out.2.2.2 rfl (HO.out.below hu) (Nat.le_trans HB.out.size hu.size) (Mt.cs_one _) #[.int .u8 (b.toNat : Int)] rfl (by simp [Value.oneCell']) (by omega) (by omega))
          clear HVN
          go_wp2_with fail
          refine (HE.out).mono ?_
          rintro e w2 ⟨rfl, rfl⟩
          go_wp2_with fail
          refine (HRB.out).mono ?_
          rintro e w2 ⟨rfl, hb⟩
          have HB2 := Lib.hid hb
          clear hb
          go_wp2_with fail
          refine (HE2.out _).mono ?_
          rintro e w3 ⟨rfl, rfl⟩
          have HP3 := HPU.out _ ((HB2.out).drew)
          go_wp2_with (go_at_call 76; refine (HG2.out _).mono ?_; rintro e w3 ⟨rfl, rfl⟩)
          obtain ⟨a3, c3, w3, hrun, hown3, hb3⟩ := HP3
          have HO3 := Lib.hid hown3
          have HB3 := Lib.hid (((HB.out.trans (HB2.out.mono HB.out.size)).drew).trans hb3)
          clear hown3 hb3
          go_region_law (refine step_append_eq rfl _ _ 114 114 rfl _ _ (by rfl) (by rfl) hrun ?_)
          all_goals
            simp [Act.put]
            refine ⟨?_, ?measure⟩
            (repeat apply Exists.intro)
            refine ⟨?rel, rfl⟩
            case rel => exact ⟨l.drop n, o ++ [b], a3, c3, rfl, by simp, by have h := HO3.out; rw [List.length_append, List.length_singleton, Mt.cs_append]; exact Lib.hid h, by rw [List.length_drop, List.length_append, List.length_singleton]; have := HNL.out; omega, HF, HB3⟩
            case measure => simp [szOf, Mt.str_size]; have := HNL.out; omega
    · have HF : Hid (Mt.valL s.data.toList = some (o, l)) := by rw [HV.out]; simp only [Mt.valF, hq]; exact Lib.hid rfl
      have hcv := own_conv HO.out
      clear hq hll
      go_wp2_with fail
      refine (HE.out).mono ?_
      rintro e w2 ⟨rfl, rfl⟩
      go_wp2_with fail
      exact bodyPost_ret (v := valV (some (o, l))) (by simp [results, Tryz.results101, go_sem, valV]) rfl ⟨by rw [HF.out], HB.out⟩
end Go.Proofs.YtngdbhncafnliaaGreat

/-
  What the call dn.readRDN comes to.
-/
namespace Go.Proofs.YtngdbhncafnliaaGreat
open Go.RowKit

theorem Tryz.infoAva : (Tryz.prog.info? 87).map (fun i => (i.zero, i.size, i.bytes)) = some (some (.agg #[.string ByteArray.empty, .string ByteArray.empty]), 2, 32) := by kernel_rfl
/-- The cells of types and values. -/
def avs (r : List Mt.Av) : List Value := r.flatMap fun a => [.string (Mt.str a.1), .string (Mt.str a.2)]
theorem avs_length : ∀ r : List Mt.Av, (avs r).length = r.length * 2
  | [] => rfl
  | a :: r => by
    have := avs_length r
    simp only [avs, List.flatMap_cons, List.length_append, List.length_cons, List.length_nil] at this ⊢
    omega
theorem avs_append (a b : List Mt.Av) : avs (a ++ b) = avs a ++ avs b := by simp [avs]
theorem avs_one (r : List Mt.Av) : ∀ u ∈ avs r, u.oneCell' = true := by
  intro u hu
  simp only [avs, List.mem_flatMap] at hu
  obtain ⟨a, _, h⟩ := hu
  simp at h
  rcases h with rfl | rfl <;> rfl
theorem avs_get : ∀ (r : List Mt.Av) (j : Nat) (hj : j < r.length), (avs r)[j * 2]? = some (.string (Mt.str r[j].1)) ∧ (avs r)[j * 2 + 1]? = some (.string (Mt.str r[j].2))
  | [], j, hj => by simp at hj
  | a :: r, 0, _ => ⟨rfl, rfl⟩
  | a :: r, j + 1, hj => by
    have h := avs_get r j (by simpa using hj)
    have e : avs (a :: r) = .string (Mt.str a.1) :: .string (Mt.str a.2) :: avs r := rfl
    rw [e, show (j + 1) * 2 = j * 2 + 2 by omega]
    exact h
theorem IsOwn.avs {base : Nat} {w : World} {v : Value} {r : List Mt.Av} (h : IsOwn 87 2 base w v r.length (avs r)) (hn : r.length ≤ 9223372036854775807) : IsAvs w v r := by
  obtain ⟨g, _, hl, h⟩ := h
  rcases h with ⟨h0, rfl⟩ | ⟨off, cap, cur, rfl, h2, h3, h4, h5⟩
  · have : r = [] := List.eq_nil_of_length_eq_zero h0
    subst this
    exact ⟨none, 0, rfl, hn, by simp, .inl rfl⟩
  · refine ⟨_, cap, rfl, hn, h3, .inr ⟨g, off, rfl, lt_of_block h2, fun j hj => ?_⟩⟩
    have hc : ∀ i u, (YtngdbhncafnliaaGreat.avs r)[i]? = some u → w.cell? ⟨g, off + i, none⟩ = some u := fun i u hu => by
      rw [cell_of_row w g _ cur 87 (0, 0) h2]
      have hi : i < (YtngdbhncafnliaaGreat.avs r).length := by
        rcases Nat.lt_or_ge i (YtngdbhncafnliaaGreat.avs r).length with h | h
        · exact h
        · rw [List.getElem?_eq_none h] at hu; cases hu
      rw [h5 i hi]
      rw [List.getElem?_eq_getElem hi] at hu; exact hu
    have hg := avs_get r j hj
    exact ⟨hc _ _ hg.1, by rw [Nat.add_assoc]; exact hc _ _ hg.2⟩

theorem Mt.typ_len {l : List UInt8} (h : Mt.typL l = true) : l.length ≤ 32 := by
  match l with
  | [] => simp
  | c :: r => simp [Mt.typL] at h; simp; omega
theorem Mt.cut_len : ∀ {l a b : List UInt8}, Mt.cutE l = some (a, b) → a.length + b.length + 1 = l.length
  | [], a, b, h => by simp [Mt.cutE] at h
  | c :: r, a, b, h => by
    simp only [Mt.cutE] at h
    split at h
    · cases h; simp
    · cases hr : Mt.cutE r with
      | none => rw [hr] at h; cases h
      | some p =>
        obtain ⟨x, y⟩ := p
        rw [hr] at h; cases h
        have := Mt.cut_len hr
        simp; omega
theorem Mt.valF_len : ∀ {k : Nat} {v l a b : List UInt8}, Mt.valF k v l = some (a, b) → a.length + b.length ≤ v.length + l.length ∧ b.length ≤ l.length
  | 0, v, l, a, b, h => by simp [Mt.valF] at h
  | k + 1, v, l, a, b, h => by
    simp only [Mt.valF] at h
    split at h
    · cases h; exact ⟨Nat.le_refl _, Nat.le_refl _⟩
    · cases hb : Mt.byteL l with
      | none => rw [hb] at h; cases h
      | some p =>
        obtain ⟨c, n⟩ := p
        have hn := Mt.byte_size hb
        rw [hb] at h
        simp only at h
        split at h
        · cases h
        · have := Mt.valF_len h
          simp only [List.length_drop, List.length_append, List.length_singleton] at this
          omega
theorem Mt.valL_len {l a b : List UInt8} (h : Mt.valL l = some (a, b)) : a.length ≤ l.length ∧ b.length ≤ l.length := by
  have := Mt.valF_len h
  simp only [List.length_nil] at this
  omega

/-- What readRDN answers. -/
def RdnP (w : World) (res : Except Nat (List Mt.Av × List UInt8)) (x : Ending) (w' : World) : Prop :=
  Below w.heap.size w w' ∧ match res with
    | .error e => x = .returned (.tuple #[.slice none 0 0, .string ByteArray.empty, .int .i64 e])
    | .ok (r, rest) => ∃ v, x = .returned (.tuple #[v, .string (Mt.str rest), .int .i64 0]) ∧ IsOwn 87 2 w.heap.size w' v r.length (avs r) ∧ r.length ≤ 8

set_option maxRecDepth 100000 in
set_option maxHeartbeats 1000000 in
theorem readRDN_any (s : ByteArray) (w : World) (hs : s.size ≤ 70368744177664) : Calls Tryz.prog 80 #[.string s] w (RdnP w (Mt.rdnF 8 [] s.data.toList)) := by
  obtain ⟨i0, hi, hz0, hz1, hz2⟩ := info_parts Tryz.infoAva
  have HI := Lib.hid (And.intro hi (And.intro hz0 (And.intro hz1 hz2)))
  clear hi hz0 hz1 hz2
  obtain ⟨R, hR⟩ : ∃ R, Mt.rdnF 8 [] s.data.toList = R := ⟨_, rfl⟩
  rw [hR]
  have HR0 := Lib.hid hR
  clear hR
  go_enter Tryz.func80, Tryz.ntmps80
  go_wp2_with fail
  go_loopw [0, 5] (fun sv v wr => ∃ (l : List UInt8) (acc : List Mt.Av) (a : Option Addr) (c : Nat), sv = .string (Mt.str l) ∧ v = .slice a acc.length c ∧ Hid (IsOwn 87 2 w.heap.size wr (.slice a acc.length c) acc.length (avs acc)) ∧ l.length ≤ s.size ∧ acc.length ≤ 8 ∧ Hid (Mt.rdnF (8 - acc.length) acc l = R) ∧ Hid (∀ a ∈ acc, a.1.length ≤ 32) ∧ Hid (Below w.heap.size w wr))
    (fun sv _ _ => szOf sv)
  case atStart => exact ⟨s.data.toList, [], none, 0, rfl, rfl, Lib.hid (IsOwn.nil _ _ _ _), Nat.le_refl _, by simp, HR0, Lib.hid (by simp), Lib.hid (Below.refl _ _)⟩
  case round =>
    obtain ⟨l, acc, a, c, rfl, rfl, HO, hlen, hacc, HR, HT, HB⟩ := hrel
    by_cases h8 : acc.length < 8
    · have h8i : decide ((acc.length : Int) < 8) = true := decide_eq_true (by omega)
      obtain ⟨m, hm⟩ : ∃ m, 8 - acc.length = m + 1 := ⟨7 - acc.length, by omega⟩
      rw [hm] at HR
      have HC := Lib.hid (cut_any (Mt.str l) wr (by rw [Mt.str_size]; omega))
      rw [Mt.str_data] at HC
      unfold cutV at HC
      cases hcut : Mt.cutE l with
      | none =>
        rw [hcut] at HC
        have HF : Hid (R = .error 4) := Lib.hid (by rw [← HR.out]; simp [Mt.rdnF, hcut])
        clear hcut
        go_wp2_with fail
        refine (HC.out).mono ?_
        rintro e w2 ⟨rfl, hb⟩
        have HB2 := Lib.hid (HB.out.trans (hb.mono HB.out.size))
        clear hb
        go_wp2_with fail
        exact bodyPost_ret (v := .tuple #[.slice none 0 0, .string ByteArray.empty, .int .i64 4]) (by simp [results, Tryz.results80, go_sem]; rfl) rfl ⟨HB2.out, by rw [HF.out]; rfl⟩
      | some p =>
        obtain ⟨t, r⟩ := p
        rw [hcut] at HC
        simp only at HC
        have hcl := Mt.cut_len hcut
        have HTY := Lib.hid (fun u => type_any (Mt.str t) u)
        rw [Mt.str_data] at HTY
        cases hty : Mt.typL t with
        | false =>
          rw [hty] at HTY
          have HF : Hid (R = .error 4) := by rw [← HR.out]; simp only [Mt.rdnF, hcut, hty]; exact Lib.hid rfl
          clear hcut hcl hty
          go_wp2_with fail
          refine (HC.out).mono ?_
          rintro e w2 ⟨rfl, hb⟩
          have HB2 := Lib.hid (HB.out.trans (hb.mono HB.out.size))
          clear hb
          go_wp2_with fail
          refine (HTY.out _).mono ?_
          rintro e w3 ⟨rfl, hb⟩
          have HB3 := Lib.hid (HB2.out.trans (hb.mono HB2.out.size))
          clear hb
          go_wp2_with fail
          exact bodyPost_ret (v := .tuple #[.slice none 0 0, .string ByteArray.empty, .int .i64 4]) (by simp [results, Tryz.results80, go_sem]; rfl) rfl ⟨HB3.out, by rw [HF.out]; rfl⟩
        | true =>
          rw [hty] at HTY
          have htl := Mt.typ_len hty
          have HH := Lib.hid (fun (u : World) (hu : Below wr.heap.size wr u) => has_any ((HO.out.below hu).avs (by omega)) (Mt.str t) (by rw [Mt.str_size]; omega) (fun a ha => by have := HT.out a ha; omega))
          rw [Mt.str_data] at HH
          cases hhas : Mt.hasL acc t with
          | true =>
            rw [hhas] at HH
            have HF : Hid (R = .error 21) := by rw [← HR.out]; simp only [Mt.rdnF, hcut, hty, hhas]; exact Lib.hid rfl
            clear hcut hcl hty hhas
            go_wp2_with fail
            refine (HC.out).mono ?_
            rintro e w2 ⟨rfl, hb⟩
            have HB2 := Lib.hid hb
            clear hb
            go_wp2_with fail
            refine (HTY.out _).mono ?_
            rintro e w3 ⟨rfl, hb⟩
            have HB3 := Lib.hid (HB2.out.trans (hb.mono HB2.out.size))
            clear hb
            go_wp2_with fail
            refine (HH.out _ HB3.out).mono ?_
            rintro e w4 ⟨rfl, hb⟩
            have HB4 := Lib.hid (HB.out.trans ((HB3.out.trans (hb.mono HB3.out.size)).mono HB.out.size))
            clear hb
            go_wp2_with fail
            exact bodyPost_ret (v := .tuple #[.slice none 0 0, .string ByteArray.empty, .int .i64 21]) (by simp [results, Tryz.results80, go_sem]; rfl) rfl ⟨HB4.out, by rw [HF.out]; rfl⟩
          | false =>
            rw [hhas] at HH
            have HV := Lib.hid (fun u => readValue_any (Mt.str r) u (by rw [Mt.str_size]; omega))
            rw [Mt.str_data] at HV
            unfold valV at HV
            cases hval : Mt.valL r with
            | none =>
              rw [hval] at HV
              have HF : Hid (R = .error 4) := by rw [← HR.out]; simp only [Mt.rdnF, hcut, hty, hhas, hval]; exact Lib.hid rfl
              clear hcut hcl hty hhas hval
              go_wp2_with fail
              refine (HC.out).mono ?_
              rintro e w2 ⟨rfl, hb⟩
              have HB2 := Lib.hid hb
              clear hb
              go_wp2_with fail
              refine (HTY.out _).mono ?_
              rintro e w3 ⟨rfl, hb⟩
              have HB3 := Lib.hid (HB2.out.trans (hb.mono HB2.out.size))
              clear hb
              go_wp2_with fail
              refine (HH.out _ HB3.out).mono ?_
              rintro e w4 ⟨rfl, hb⟩
              have HB4 := Lib.hid (HB.out.trans ((HB3.out.trans (hb.mono HB3.out.size)).mono HB.out.size))
              clear hb
              go_wp2_with fail
              refine (HV.out _).mono ?_
              rintro e w5 ⟨rfl, hb⟩
              have HB5 := Lib.hid (HB4.out.trans (hb.mono HB4.out.size))
              clear hb
              go_wp2_with fail
              exact bodyPost_ret (v := .tuple #[.slice none 0 0, .string ByteArray.empty, .int .i64 4]) (by simp [results, Tryz.results80, go_sem]; rfl) rfl ⟨HB5.out, by rw [HF.out]; rfl⟩
            | some p2 =>
              obtain ⟨x, r2⟩ := p2
              rw [hval] at HV
              simp only at HV
              have hvl := Mt.valL_len hval
              have HK := Lib.hid (fun u => clone_any (Mt.str t) u (by rw [Mt.str_size]; omega))
              have HP := Lib.hid (fun u => hasPlus_any (Mt.str r2) u)
              rw [Mt.str_data] at HP
              have HPU := Lib.hid (fun (u : World) (hu : Below wr.heap.size wr u) => own_push (T := 89) (tx := 89) Tryz.underlying89 Tryz.underlying89 HI.out.1 HI.out.2.1 HI.out.2.2.1 HI.out.2.2.2 rfl (HO.out.below hu) (Nat.le_trans HB.out.size hu.size) (avs_one _) #[.string (Mt.str t), .string (Mt.str x)] rfl (by simp [Value.oneCell']) (by omega) (by omega))
              have HAV : Hid (avs acc ++ (#[.string (Mt.str t), .string (Mt.str x)] : Array Value).toList = avs (acc ++ [(t, x)])) := Lib.hid (by rw [avs_append]; rfl)
              have HT2 : Hid (∀ a ∈ acc ++ [(t, x)], a.1.length ≤ 32) := Lib.hid (by
                intro a ha
                rw [List.mem_append, List.mem_singleton] at ha
                rcases ha with ha | rfl
                · exact HT.out a ha
                · exact htl)
              cases hplus : decide (r2.head? = some 43) with
              | false =>
                rw [hplus] at HP
                have HF : Hid (R = .ok (acc ++ [(t, x)], r2)) := by
                  rw [← HR.out]; simp only [Mt.rdnF, hcut, hty, hhas, hval]
                  match r2, hplus with
                  | [], _ => exact Lib.hid rfl
                  | d :: r3, h =>
                    have : d ≠ 43 := by simpa using h
                    simp only [Bool.not_true, Bool.false_eq_true, if_false]
                    split
                    · rename_i h; cases h; exact absurd rfl this
                    · exact Lib.hid rfl
                clear hcut hcl hty hhas hval htl hplus
                go_wp2_with fail
                refine (HC.out).mono ?_
                rintro e w2 ⟨rfl, hb⟩
                have HB2 := Lib.hid hb
                clear hb
                go_wp2_with fail
                refine (HTY.out _).mono ?_
                rintro e w3 ⟨rfl, hb⟩
                have HB3 := Lib.hid (HB2.out.trans (hb.mono HB2.out.size))
                clear hb
                go_wp2_with fail
                refine (HH.out _ HB3.out).mono ?_
                rintro e w4 ⟨rfl, hb⟩
                have HB4 := Lib.hid (HB3.out.trans (hb.mono HB3.out.size))
                clear hb
                go_wp2_with fail
                refine (HV.out _).mono ?_
                rintro e w5 ⟨rfl, hb⟩
                have HB5 := Lib.hid (HB4.out.trans (hb.mono HB4.out.size))
                clear hb
                go_wp2_with fail
                refine (HK.out _).mono ?_
                rintro e w6 ⟨rfl, hb⟩
                have HB6 := Lib.hid (HB5.out.trans (hb.mono HB5.out.size))
                obtain ⟨a3, c3, w7, hrun, hown, hb7⟩ := HPU.out w6 HB6.out
                rw [HAV.out] at hown
                have HO7 := Lib.hid hown
                have HB7 := Lib.hid ((HB.out.trans (HB6.out.mono HB.out.size)).trans hb7)
                clear hb hown hb7
                go_wp2_with (refine wpList_append_run rfl _ _ 89 89 rfl _ _ rfl rfl hrun ?_)
                refine (HP.out _).mono ?_
                rintro e w8 ⟨rfl, rfl⟩
                go_wp2_with fail
                refine bodyPost_ret (v := .tuple #[.slice a3 (acc.length + 1) c3, .string (Mt.str r2), .int .i64 0]) (by simp [results, Tryz.results80, go_sem]) rfl ⟨HB7.out, ?_⟩
                rw [HF.out]
                exact ⟨_, rfl, by rw [List.length_append]; exact HO7.out, by rw [List.length_append]; simp; omega⟩
              | true =>
                match r2, hplus with
                | [], h => simp at h
                | d :: l2, h =>
                have hd : d = 43 := by simpa using h
                subst hd
                have HF : Hid (Mt.rdnF m (acc ++ [(t, x)]) l2 = R) := Lib.hid (by
                  rw [← HR.out]; simp only [Mt.rdnF, hcut, hty, hhas, hval]; rfl)
                have hx1 : (Mt.str (43 :: l2)).extract 1 (Mt.str (43 :: l2)).size = Mt.str l2 := by rw [Mt.extract_drop]; rfl
                have hl2 : l2.length + 1 < l.length := by have := hvl.2; simp at this; omega
                have hs1 : (1 : Int) ≤ (Mt.str (43 :: l2)).size := by rw [Mt.str_size]; simp; omega
                have hs2 : 1 ≤ (Mt.str (43 :: l2)).size := by omega
                clear hcut hcl hty hhas hval htl h hvl
                go_wp2_with fail
                refine (HC.out).mono ?_
                rintro e w2 ⟨rfl, hb⟩
                have HB2 := Lib.hid hb
                clear hb
                go_wp2_with fail
                refine (HTY.out _).mono ?_
                rintro e w3 ⟨rfl, hb⟩
                have HB3 := Lib.hid (HB2.out.trans (hb.mono HB2.out.size))
                clear hb
                go_wp2_with fail
                refine (HH.out _ HB3.out).mono ?_
                rintro e w4 ⟨rfl, hb⟩
                have HB4 := Lib.hid (HB3.out.trans (hb.mono HB3.out.size))
                clear hb
                go_wp2_with fail
                refine (HV.out _).mono ?_
                rintro e w5 ⟨rfl, hb⟩
                have HB5 := Lib.hid (HB4.out.trans (hb.mono HB4.out.size))
                clear hb
                go_wp2_with fail
                refine (HK.out _).mono ?_
                rintro e w6 ⟨rfl, hb⟩
                have HB6 := Lib.hid (HB5.out.trans (hb.mono HB5.out.size))
                obtain ⟨a3, c3, w7, hrun, hown, hb7⟩ := HPU.out w6 HB6.out
                rw [HAV.out] at hown
                have HO7 := Lib.hid hown
                have HB7 := Lib.hid ((HB.out.trans (HB6.out.mono HB.out.size)).trans hb7)
                clear hb hown hb7
                go_wp2_with (refine wpList_append_run rfl _ _ 89 89 rfl _ _ rfl rfl hrun ?_)
                refine (HP.out _).mono ?_
                rintro e w8 ⟨rfl, rfl⟩
                go_wp2_with fail
                go_roundw
                case rel => exact ⟨l2, acc ++ [(t, x)], a3, c3, rfl, by rw [List.length_append]; rfl, by rw [List.length_append]; exact HO7, by omega, by rw [List.length_append]; simp; omega, by rw [List.length_append, show 8 - (acc.length + [(t, x)].length) = m by simp; omega]; exact HF, HT2, HB7⟩
                case measure => simp [szOf, Mt.str_size]; omega
    · have HF : Hid (R = .error 9) := by rw [← HR.out, show 8 - acc.length = 0 by omega]; exact Lib.hid rfl
      have h8i : decide ((acc.length : Int) < 8) = false := decide_eq_false (by omega)
      go_wp2_with fail
      exact bodyPost_ret (v := .tuple #[.slice none 0 0, .string ByteArray.empty, .int .i64 9]) (by simp [results, Tryz.results80, go_sem]; rfl) rfl ⟨HB.out, by rw [HF.out]; rfl⟩
end Go.Proofs.YtngdbhncafnliaaGreat
