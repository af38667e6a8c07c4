/-
  ShaParts is proved: how bytes are cut makes no difference to the digest, nor does a look between. No condition beyond the statement's own (texts of at most 20000 bytes are looked at); the two listed package variables start as the program's text lays them.
-/
import Derived.Test.YtklaaallegidcaaDoorCards
import Derived.Test.YtklaaallegidcaaDoorTie
import Derived.Test.YtklaaallegidcaaDoorDoor
import Derived.Test.YtklaaallegidcaaDoorAwake3
import Derived.Test.YtklaaallegidcaaDoorLast2
import Derived.Test.YtklaaallegidcaaDoorWrite
import Derived.SevenTiedAt
import Derived.ProofKit
import Derived.OpenShut
import Derived.ShutString
import Derived.SizedLaws
import Derived.SliceStrings
import Derived.StillTailTactics
import Derived.Deep.Cut
namespace Go.Proofs.YtklaaallegidcaaDoor.shaParts
open Go.ChangeShapes Go.WideShapes Go.ChangeAt Go.RowKit
open Go.ChangeMaps (open_string shut_string)
set_option linter.unusedVariables false

theorem extract_toList (s : ByteArray) (a b : Nat) : (s.extract a b).data.toList = (s.data.toList.drop a).take (b - a) := by
  rw [ByteArray.data_extract, Array.toList_extract]; try rfl
theorem cut3 (s : ByteArray) (K J : Nat) (h : K ≤ J) (hJ : J ≤ s.size) : (s.extract 0 K).data.toList ++ ((s.extract K J).data.toList ++ (s.extract J s.size).data.toList) = s.data.toList := by
  have hl : s.data.toList.length = s.size := rfl
  rw [extract_toList, extract_toList, extract_toList, List.drop_zero, Nat.sub_zero]
  have e1 : (s.data.toList.drop J).take (s.size - J) = s.data.toList.drop J := List.take_of_length_le (by rw [List.length_drop, hl]; exact Nat.le_refl _)
  have e2 : (s.data.toList.drop K).take (J - K) ++ s.data.toList.drop J = s.data.toList.drop K := by
    have h2 := List.take_append_drop (J - K) (s.data.toList.drop K)
    rw [List.drop_drop, show K + (J - K) = J by omega] at h2
    exact h2
  rw [e1, e2, List.take_append_drop]

/-- A slice of texts of the call's own, elsewhere than the block B. -/
def IsSl (B : Nat) (w : World) (v : Value) (ss : List ByteArray) : Prop :=
  ∃ g, v = .slice (some ⟨g, 0, none⟩) ss.length ss.length ∧ g ≠ B ∧ ∀ i (hi : i < ss.length), w.cell? ⟨g, 0 + i, none⟩ = some (.string ss[i])
/-- What the slot of operation i comes to hold. -/
def GoodAt (B : Nat) (l : List (Value ⊕ List ByteArray)) (i : Nat) (x : Value) (w : World) : Prop :=
  match l[i]? with
  | some (.inl c) => x = c
  | some (.inr ss) => IsSl B w x ss
  | none => True
theorem IsSl.later {B : Nat} {w w' : World} {v : Value} {ss : List ByteArray} (h : IsSl B w v ss) (hb : Below w.heap.size w w') : IsSl B w' v ss := by
  obtain ⟨g, hg, hB, hc⟩ := h
  refine ⟨g, hg, hB, fun i hi => ?_⟩
  have hblk : g < w.heap.size := World.block_lt_of_cell? w ⟨g, 0 + i, none⟩ (hc i hi)
  rw [hb.cell (p := ⟨g, 0 + i, none⟩) hblk]
  exact hc i hi
theorem goodAt_mono (B : Nat) (l : List (Value ⊕ List ByteArray)) (i : Nat) (x : Value) (w w' : World) (hb : Below w.heap.size w w') (h : GoodAt B l i x w) : GoodAt B l i x w' := by
  unfold GoodAt at h ⊢
  split
  · rename_i c hc; rw [hc] at h; exact h
  · rename_i ss hc; rw [hc] at h; exact IsSl.later h hb
  · trivial
theorem isSl_one (B : Nat) (w : World) (a : ByteArray) (hB : B < w.heap.size) : IsSl B (w.alloc (.cells #[.string a] 9)) (.slice (some ⟨w.heap.size, 0, none⟩) 1 1) [a] :=
  ⟨w.heap.size, rfl, by omega, fun i hi => by
    obtain rfl : i = 0 := by simpa using hi
    rw [cell_of_row _ _ _ _ _ _ (heap_alloc_new w _)]; rfl⟩
theorem isSl_three (B : Nat) (w : World) (a b c : ByteArray) (hB : B < w.heap.size) : IsSl B (w.alloc (.cells #[.string a, .string b, .string c] 9)) (.slice (some ⟨w.heap.size, 0, none⟩) 3 3) [a, b, c] :=
  ⟨w.heap.size, rfl, by omega, fun i hi => by
    have hi3 : i < 3 := hi
    rw [cell_of_row _ _ _ _ _ _ (heap_alloc_new w _)]
    match i, hi3 with
    | 0, _ => rfl
    | 1, _ => rfl
    | 2, _ => rfl⟩
theorem IsSl.strs {B : Nat} {w : World} {v : Value} {ss : List ByteArray} (h : IsSl B w v ss) (hs : ∀ p ∈ ss, p.size ≤ maxLen) : ∃ a, v = .slice a ss.length ss.length ∧ IsStrs w a ss.length ss ∧ Apart B a ss.length := by
  obtain ⟨g, rfl, hB, hc⟩ := h
  exact ⟨_, rfl, ⟨rfl, .inr ⟨g, 0, rfl, hc⟩, hs⟩, .inr fun p hp => by
    obtain rfl := Option.some.inj hp
    exact hB⟩
theorem all_sl {B : Nat} {u : World} {x : Value} {ss : List ByteArray} {D : ByteArray} (h : IsSl B u x ss) (hg : Laid u) (hs : ∀ p ∈ ss, p.size ≤ maxLen) (hn : ss.length ≤ 9223372036854775807) (hc : (Mt.cat ss).length ≤ 1099511627776) (hD : Mt.str (Mt.sha (Mt.cat ss)) = D) :
    Calls Tryd.prog 13 #[x] u fun e w' => e = .returned (.string D) ∧ Below u.heap.size u w' := by
  obtain ⟨a, rfl, h1, _⟩ := h.strs hs
  subst hD
  exact all_any a ss.length ss.length ss u hg h1 hc hn
theorem writes_sl {B : Nat} {u : World} {x : Value} {ss : List ByteArray} {M : List UInt8} (h : IsSl B u x ss) (hst : IsSt u B M) (hg : LaidN B u) (hs : ∀ p ∈ ss, p.size ≤ maxLen) (hn : ss.length ≤ 9223372036854775807) (hc : M.length + (Mt.cat ss).length ≤ 1099511627776) :
    Calls Tryd.prog 16 #[.pointer (some ⟨B, 0, none⟩), x] u fun e w' => e = .returned (.tuple #[]) ∧ IsSt w' B (M ++ Mt.cat ss) ∧ Only B u w' := by
  obtain ⟨a, rfl, h1, h2⟩ := h.strs hs
  exact writes_any B M a ss.length ss.length ss u hst hg h1 h2 hc hn

theorem cutat (s n : Nat) (x : Int) (hs : s ≤ 20000) : ∃ K : Nat, K ≤ s ∧ wrap64 ((IntKind.u64.wrap x).tmod ((s : Int) + 1)) = (K : Int) := by
  have h0 := wrap_u64_nonneg x
  obtain ⟨u, hu⟩ := Int.eq_ofNat_of_zero_le h0
  rw [hu, Int.tmod_eq_emod_of_nonneg (by omega)]
  have e : ((s : Int) + 1) = ((s + 1 : Nat) : Int) := by omega
  rw [e]
  have hlt : u % (s + 1) < s + 1 := Nat.mod_lt _ (by omega)
  refine ⟨u % (s + 1), by omega, ?_⟩
  rw [← Int.natCast_emod]
  simp only [wrap64]; omega

set_option maxHeartbeats 1600000 in
set_option maxRecDepth 100000 in
theorem walk (s : ByteArray) (at' to' : Int) (w0 : s.size ≤ 140737488351232) (w1 : (Lit.int .i64 at').wf = true) (w2 : (Lit.int .i64 to').wf = true) (w : World) (hg : Laid w) :
    Calls Tryd.prog 5 #[.string s, .int .i64 at', .int .i64 to'] w fun e w' => e = .returned (.bool true) ∧ Below w.heap.size w w' := by
  by_cases hbig : 20000 < s.size
  · have t1 : (20000 : Int) < (s.size : Int) := by omega
    have HG := Lib.hid hg
    clear hbig hg
    go_enter Tryd.func5, Tryd.ntmps5
    go_wp2_with fail
    refine (awake3_any _ HG.out).mono ?_
    rintro e w1 ⟨rfl, hb1⟩
    have H1 := Lib.hid hb1
    clear hb1
    go_wp2_with fail
    go_ret
    exact ⟨rfl, H1.out⟩
  · have hs2 : (s.size : Int) ≤ 20000 := by omega
    obtain ⟨K, hKs, hK⟩ := cutat s.size 0 at' (by omega)
    obtain ⟨K2, hK2s, hK2⟩ := cutat (s.size - K) 0 to' (by omega)
    have HK := Lib.hid hK
    have HK2 := Lib.hid (show wrap64 ((IntKind.u64.wrap to').tmod ((s.size : Int) - (K : Int) + 1)) = (K2 : Int) by
      rw [← hK2]; congr 3; omega)
    have hKi : (K : Int) ≤ (s.size : Int) := by omega
    have HNEW := Lib.hid (new_any w hg)
    have HG := Lib.hid hg
    clear hbig w0 w1 w2 hK hK2 hg
    go_enter Tryd.func5, Tryd.ntmps5
    have hKd : (s.size : Int) - (K : Int) ≤ 20000 := by omega
    have HJ := Lib.hid (show wrap64 ((K : Int) + (K2 : Int)) = ((K + K2 : Nat) : Int) by simp only [wrap64]; omega)
    obtain ⟨J, hJ⟩ : ∃ J, K + K2 = J := ⟨_, rfl⟩
    rw [hJ] at HJ
    have hJK : K ≤ J := by omega
    have hJs : J ≤ s.size := by omega
    go_upto_region 4 with fail
    rw [HK.out]
    go_upto_region 5 with fail
    rw [HK2.out]
    rw [HJ.out]
    have HCUT := Lib.hid (cut3 s K J hJK hJs)
    have HSA := Lib.hid (show (s.extract 0 K).size = K ∧ (s.extract K J).size = J - K ∧ (s.extract J s.size).size = s.size - J by simp; omega)
    have hJi : (J : Int) ≤ (s.size : Int) := by omega
    have hJKi : (K : Int) ≤ (J : Int) := by omega
    obtain ⟨A, hA⟩ : ∃ A, s.extract 0 K = A := ⟨_, rfl⟩
    obtain ⟨Bb, hBb⟩ : ∃ Bb, s.extract K J = Bb := ⟨_, rfl⟩
    obtain ⟨C, hC⟩ : ∃ C, s.extract J s.size = C := ⟨_, rfl⟩
    rw [hA, hBb, hC] at HCUT HSA
    clear hJ HK HK2 hKd hKs hK2s HJ
    go_wp2_with fail
    refine (HNEW.out).mono ?_
    rintro e w1 ⟨rfl, rfl⟩
    have hb0 := below_alloc w (.cells Mt.st0 66)
    have HN0 := Lib.hid (HG.out.toN hb0 (Nat.le_refl _))
    have HWA := Lib.hid (fun D hD => write_one w.heap.size D [] A _ hD (new_st w) (by simp) HN0.out (by have := HSA.out; simp; omega))
    have HB0 := Lib.hid hb0
    clear hb0
    go_wp2_with fail
    refine (HWA.out _ (by simp)).mono ?_
    rintro e w2 ⟨rfl, hs2', ho2⟩
    have hb2 := HB0.out.trans (ho2.toBelow (Nat.le_refl _) (by simp))
    have HSU := Lib.hid (sum_any w.heap.size _ w2 hs2' (HG.out.below hb2 (Nat.le_refl _)) (by
      have e1 : A.data.toList.length = A.size := rfl
      rw [List.nil_append, e1, HSA.out.1]; omega))
    have HS2 := Lib.hid hs2'
    have HB2 := Lib.hid hb2
    have hsz2 := ho2.size
    clear hs2' ho2 hb2 HWA HB0
    go_wp2_with fail
    refine (HSU.out).mono ?_
    rintro e w3 ⟨rfl, hb3⟩
    have hB2 : w.heap.size < w2.heap.size := by simp at hsz2; omega
    have HS3 := Lib.hid (HS2.out.below hb3 hB2)
    have HB3 := Lib.hid (HB2.out.trans (hb3.mono HB2.out.size))
    have hB3 : w.heap.size < w3.heap.size := Nat.lt_of_lt_of_le hB2 hb3.size
    clear hb3 HS2 HB2 HSU
    go_wp2_with fail
    rw [List.nil_append] at HS3
    have HNA := Lib.hid (show A.size = K from HSA.out.1)
    have HSZ := Lib.hid (show (∀ p ∈ [Bb, ByteArray.empty, C], p.size ≤ maxLen) ∧ (∀ p ∈ [A, Bb, C], p.size ≤ maxLen) ∧ (∀ p ∈ [s], p.size ≤ maxLen) from by
      have h := HSA.out
      refine ⟨?_, ?_, ?_⟩ <;> simp [maxLen] <;> omega)
    have HLC := Lib.hid (show A.data.toList.length + (Mt.cat [Bb, ByteArray.empty, C]).length ≤ 1099511627776 ∧ (Mt.cat [A, Bb, C]).length ≤ 1099511627776 ∧ (Mt.cat [s]).length ≤ 1099511627776 from by
      have h := HSA.out
      have e1 : A.data.toList.length = A.size := rfl
      have e2 : Bb.data.toList.length = Bb.size := rfl
      have e3 : C.data.toList.length = C.size := rfl
      have e4 : s.data.toList.length = s.size := rfl
      have e5 : ByteArray.empty.data.toList.length = 0 := rfl
      rw [Mt.cat_three, Mt.cat_three, Mt.cat_one]
      simp only [List.length_append]
      omega)
    have HCAT := Lib.hid (show A.data.toList ++ Mt.cat [Bb, ByteArray.empty, C] = s.data.toList ∧ Mt.cat [A, Bb, C] = s.data.toList from by
      rw [Mt.cat_three, Mt.cat_three]
      exact ⟨HCUT.out, HCUT.out⟩)
    obtain ⟨D, hD⟩ : ∃ D, Mt.str (Mt.sha s.data.toList) = D := ⟨_, rfl⟩
    have HD := Lib.hid hD
    clear hD
    refine wp_region_last2 (by kernel_rfl) (fun v => ⟨#[Value.string s, Value.int .i64 at', Value.int .i64 to', undef, undef, undef, Value.bool false, Value.int .i64 (K : Int), Value.int .i64 (J : Int), Value.pointer (some ⟨w.heap.size, 0, none⟩), Value.string s, Value.int .i64 (s.size : Int), Value.bool (decide ((20000 : Int) < (s.size : Int))), undef, Value.int .i64 at', Value.int .u64 (IntKind.u64.wrap at'), Value.string s, Value.int .i64 (s.size : Int), Value.int .i64 ((s.size : Int) + 1), Value.int .u64 ((s.size : Int) + 1), Value.int .u64 ((IntKind.u64.wrap at').tmod ((s.size : Int) + 1)), Value.int .i64 (K : Int), Value.int .i64 (K : Int), Value.int .i64 to', Value.int .u64 (IntKind.u64.wrap to'), Value.string s, Value.int .i64 (s.size : Int), Value.int .i64 (K : Int), Value.int .i64 ((s.size : Int) - (K : Int)), Value.int .i64 ((s.size : Int) - (K : Int) + 1), Value.int .u64 ((s.size : Int) - (K : Int) + 1), Value.int .u64 ((IntKind.u64.wrap to').tmod ((s.size : Int) - (K : Int) + 1)), Value.int .i64 (K2 : Int), Value.int .i64 (J : Int), Value.pointer (some ⟨w.heap.size, 0, none⟩), Value.pointer (some ⟨w.heap.size, 0, none⟩), Value.string s, Value.int .i64 (K : Int), Value.string A, Value.slice (some ⟨w.heap.size + 1, 0, none⟩) 1 1, Value.tuple #[], Value.pointer (some ⟨w.heap.size, 0, none⟩), Value.string (Mt.str (Mt.sha A.data.toList)), v 0, v 1, v 2, v 3, v 4, v 5, v 6, v 7, v 8, v 9, undef, undef, undef, undef, undef, undef, undef, undef, undef, undef, undef, undef, undef, undef, undef, undef, undef, undef, undef, undef, undef, undef, undef, undef, undef, undef, undef], []⟩) (GoodAt w.heap.size [.inl (Value.pointer (some ⟨w.heap.size, 0, none⟩)), .inl (Value.string s), .inl (Value.int .i64 (K : Int)), .inl (Value.int .i64 (J : Int)), .inl (Value.string Bb), .inl (Value.string s), .inl (Value.int .i64 (J : Int)), .inl (Value.string C), .inr [Bb, ByteArray.empty, C]])
      (fun u => Below w.heap.size w u ∧ IsSt u w.heap.size A.data.toList ∧ w.heap.size < u.heap.size) (fun u => Below w.heap.size w u ∧ IsSt u w.heap.size s.data.toList ∧ w.heap.size < u.heap.size) (fun _ => undef) w3 (goodAt_mono _ _) (by kernel_rfl) (by kernel_rfl) (by decide) ?hput ?step ?last ⟨HB3.out.drew, HS3.out.below (Below.refl _ _).drew hB3, hB3⟩ ?fin
    case hput =>
      intro i o ho v x
      match i, ho with
      | 0, ho => obtain rfl := Option.some.inj ho; rfl
      | 1, ho => obtain rfl := Option.some.inj ho; rfl
      | 2, ho => obtain rfl := Option.some.inj ho; rfl
      | 3, ho => obtain rfl := Option.some.inj ho; rfl
      | 4, ho => obtain rfl := Option.some.inj ho; rfl
      | 5, ho => obtain rfl := Option.some.inj ho; rfl
      | 6, ho => obtain rfl := Option.some.inj ho; rfl
      | 7, ho => obtain rfl := Option.some.inj ho; rfl
      | 8, ho => obtain rfl := Option.some.inj ho; rfl
      | 9, ho => obtain rfl := Option.some.inj ho; rfl
      | i + 10, ho => cases ho
    case step =>
      intro i o ho hl v u hw hd
      match i, ho with
      | 0, ho =>
        obtain rfl := Option.some.inj ho
        clear hd ho
        refine wpOp_step rfl (fun K' hK' => ?_)
        go_simp
        exact hK' _ _ ⟨_, rfl, rfl, Below.refl _ _, hw⟩
      | 1, ho =>
        obtain rfl := Option.some.inj ho
        clear hd ho
        refine wpOp_step rfl (fun K' hK' => ?_)
        go_simp
        exact hK' _ _ ⟨_, rfl, rfl, Below.refl _ _, hw⟩
      | 2, ho =>
        obtain rfl := Option.some.inj ho
        clear hd ho
        refine wpOp_step rfl (fun K' hK' => ?_)
        go_simp
        exact hK' _ _ ⟨_, rfl, rfl, Below.refl _ _, hw⟩
      | 3, ho =>
        obtain rfl := Option.some.inj ho
        clear hd ho
        refine wpOp_step rfl (fun K' hK' => ?_)
        go_simp
        exact hK' _ _ ⟨_, rfl, rfl, Below.refl _ _, hw⟩
      | 4, ho =>
        obtain rfl := Option.some.inj ho
        have h1 : v 1 = Value.string s := hd 1 rfl
        have h2 : v 2 = Value.int .i64 (K : Int) := hd 2 rfl
        have h3 : v 3 = Value.int .i64 (J : Int) := hd 3 rfl
        clear hd ho
        refine wpOp_step rfl (fun K' hK' => ?_)
        go_simp
        exact hK' _ _ ⟨_, (by simp only [h1, h2, h3]; try rfl), rfl, Below.refl _ _, hw⟩
      | 5, ho =>
        obtain rfl := Option.some.inj ho
        clear hd ho
        refine wpOp_step rfl (fun K' hK' => ?_)
        go_simp
        exact hK' _ _ ⟨_, rfl, rfl, Below.refl _ _, hw⟩
      | 6, ho =>
        obtain rfl := Option.some.inj ho
        clear hd ho
        refine wpOp_step rfl (fun K' hK' => ?_)
        go_simp
        exact hK' _ _ ⟨_, rfl, rfl, Below.refl _ _, hw⟩
      | 7, ho =>
        obtain rfl := Option.some.inj ho
        have h5 : v 5 = Value.string s := hd 5 rfl
        have h6 : v 6 = Value.int .i64 (J : Int) := hd 6 rfl
        clear hd ho
        refine wpOp_step rfl (fun K' hK' => ?_)
        go_simp
        exact hK' _ _ ⟨_, (by simp only [h5, h6]; try rfl), rfl, Below.refl _ _, hw⟩
      | 8, ho =>
        obtain rfl := Option.some.inj ho
        have h4 : v 4 = Value.string Bb := hd 4 rfl
        have h7 : v 7 = Value.string C := hd 7 rfl
        clear hd ho
        refine wpOp_step rfl (fun K' hK' => ?_)
        go_simp
        exact hK' _ _ ⟨_, (by simp only [h4, h7]; try rfl), isSl_three _ u _ _ _ hw.2.2, (Below.refl _ _).alloc (Nat.le_refl _) _, ⟨hw.1.alloc hw.1.size _, hw.2.1.below ((Below.refl _ _).alloc (Nat.le_refl _) _) hw.2.2, by simp; have := hw.2.2; omega⟩⟩
      | i + 9, ho => exact absurd hl (by simp)
    case last =>
      intro o ho v u hw hd
      obtain rfl := Option.some.inj ho
      have h0 : v 0 = Value.pointer (some ⟨w.heap.size, 0, none⟩) := hd 0 (by decide)
      have h8 : IsSl w.heap.size u (v 8) [Bb, ByteArray.empty, C] := hd 8 (by decide)
      clear hd ho
      have HSL := Lib.hid h8
      clear h8
      refine wpOp_step rfl (fun K' hK' => ?_)
      go_simp
      refine (writes_sl HSL.out hw.2.1 (HG.out.toN hw.1 (Nat.le_refl _)) HSZ.out.1 (by simp) HLC.out.1).mono ?_
      rintro e w' ⟨rfl, hs, ho⟩
      rw [HCAT.out.1] at hs
      exact hK' _ _ ⟨_, (by simp only [h0]; try rfl), hw.1.trans (ho.toBelow (Nat.le_refl _) (Nat.le_of_lt hw.2.2)), hs, Nat.lt_of_lt_of_le hw.2.2 ho.size⟩
    case fin =>
      intro v w4 hw4
      clear HB3 HS3 hB3
      have HW4 := Lib.hid hw4
      clear hw4
      go_wp2_with fail
      refine wp_region_inv (by kernel_rfl) (fun z => ⟨#[Value.string s, Value.int .i64 at', Value.int .i64 to', undef, undef, undef, z 27, Value.int .i64 (K : Int), Value.int .i64 (J : Int), Value.pointer (some ⟨w.heap.size, 0, none⟩), Value.string s, Value.int .i64 (s.size : Int), Value.bool (decide ((20000 : Int) < (s.size : Int))), undef, Value.int .i64 at', Value.int .u64 (IntKind.u64.wrap at'), Value.string s, Value.int .i64 (s.size : Int), Value.int .i64 ((s.size : Int) + 1), Value.int .u64 ((s.size : Int) + 1), Value.int .u64 ((IntKind.u64.wrap at').tmod ((s.size : Int) + 1)), Value.int .i64 (K : Int), Value.int .i64 (K : Int), Value.int .i64 to', Value.int .u64 (IntKind.u64.wrap to'), Value.string s, Value.int .i64 (s.size : Int), Value.int .i64 (K : Int), Value.int .i64 ((s.size : Int) - (K : Int)), Value.int .i64 ((s.size : Int) - (K : Int) + 1), Value.int .u64 ((s.size : Int) - (K : Int) + 1), Value.int .u64 ((IntKind.u64.wrap to').tmod ((s.size : Int) - (K : Int) + 1)), Value.int .i64 (K2 : Int), Value.int .i64 (J : Int), Value.pointer (some ⟨w.heap.size, 0, none⟩), Value.pointer (some ⟨w.heap.size, 0, none⟩), Value.string s, Value.int .i64 (K : Int), Value.string A, Value.slice (some ⟨w.heap.size + 1, 0, none⟩) 1 1, Value.tuple #[], Value.pointer (some ⟨w.heap.size, 0, none⟩), Value.string (Mt.str (Mt.sha A.data.toList)), v 0, v 1, v 2, v 3, v 4, v 5, v 6, v 7, v 8, v 9, z 0, z 1, z 2, z 3, z 4, z 5, z 6, z 7, z 8, z 9, z 10, z 11, z 12, z 13, z 14, z 15, z 16, z 17, z 18, z 19, z 20, z 21, z 22, z 23, z 24, z 25, z 26], []⟩) (GoodAt w.heap.size [.inl (Value.bool true), .inl (Value.bool true), .inl (Value.string s), .inl (Value.int .i64 (K : Int)), .inl (Value.string A), .inl (Value.string s), .inl (Value.int .i64 (K : Int)), .inl (Value.int .i64 (J : Int)), .inl (Value.string Bb), .inl (Value.string s), .inl (Value.int .i64 (J : Int)), .inl (Value.string C), .inr [A, Bb, C], .inl (Value.string D), .inl (Value.string s), .inr [s], .inl (Value.string D), .inl (Value.bool true), .inl (Value.bool true), .inl (Value.bool true), .inl (Value.pointer (some ⟨w.heap.size, 0, none⟩)), .inl (Value.string D), .inl (Value.string s), .inr [s], .inl (Value.string D), .inl (Value.bool true), .inl (Value.bool true), .inl (Value.bool true)])
        (fun u => Below w.heap.size w u ∧ IsSt u w.heap.size s.data.toList ∧ w.heap.size < u.heap.size) (fun i => if i = 27 then .bool false else undef) w4 (by kernel_rfl) ?hput9 (goodAt_mono _ _) ?step9 ⟨HW4.out.1.drew, HW4.out.2.1.below (Below.refl _ _).drew HW4.out.2.2, HW4.out.2.2⟩ ?fin9
      case hput9 =>
        intro i o ho v x
        match i, ho with
        | 0, ho => obtain rfl := Option.some.inj ho; rfl
        | 1, ho => obtain rfl := Option.some.inj ho; rfl
        | 2, ho => obtain rfl := Option.some.inj ho; rfl
        | 3, ho => obtain rfl := Option.some.inj ho; rfl
        | 4, ho => obtain rfl := Option.some.inj ho; rfl
        | 5, ho => obtain rfl := Option.some.inj ho; rfl
        | 6, ho => obtain rfl := Option.some.inj ho; rfl
        | 7, ho => obtain rfl := Option.some.inj ho; rfl
        | 8, ho => obtain rfl := Option.some.inj ho; rfl
        | 9, ho => obtain rfl := Option.some.inj ho; rfl
        | 10, ho => obtain rfl := Option.some.inj ho; rfl
        | 11, ho => obtain rfl := Option.some.inj ho; rfl
        | 12, ho => obtain rfl := Option.some.inj ho; rfl
        | 13, ho => obtain rfl := Option.some.inj ho; rfl
        | 14, ho => obtain rfl := Option.some.inj ho; rfl
        | 15, ho => obtain rfl := Option.some.inj ho; rfl
        | 16, ho => obtain rfl := Option.some.inj ho; rfl
        | 17, ho => obtain rfl := Option.some.inj ho; rfl
        | 18, ho => obtain rfl := Option.some.inj ho; rfl
        | 19, ho => obtain rfl := Option.some.inj ho; rfl
        | 20, ho => obtain rfl := Option.some.inj ho; rfl
        | 21, ho => obtain rfl := Option.some.inj ho; rfl
        | 22, ho => obtain rfl := Option.some.inj ho; rfl
        | 23, ho => obtain rfl := Option.some.inj ho; rfl
        | 24, ho => obtain rfl := Option.some.inj ho; rfl
        | 25, ho => obtain rfl := Option.some.inj ho; rfl
        | 26, ho => obtain rfl := Option.some.inj ho; rfl
        | 27, ho => obtain rfl := Option.some.inj ho; rfl
        | i + 28, ho => cases ho
      case step9 =>
        intro i o ho v u hw hd
        match i, ho with
        | 0, ho =>
          obtain rfl := Option.some.inj ho
          clear hd ho
          refine wpOp_step rfl (fun K' hK' => ?_)
          go_simp
          refine (awake3_any u (HG.out.below hw.1 (Nat.le_refl _))).mono ?_
          rintro e w' ⟨rfl, hb⟩
          exact hK' _ _ ⟨_, rfl, rfl, hb, hw.1.trans (hb.mono hw.1.size), hw.2.1.below hb hw.2.2, Nat.lt_of_lt_of_le hw.2.2 hb.size⟩
        | 1, ho =>
          obtain rfl := Option.some.inj ho
          have h0 : v 0 = Value.bool true := hd 0 rfl
          clear hd ho
          refine wpOp_step rfl (fun K' hK' => ?_)
          go_simp
          exact hK' _ _ ⟨_, (by simp only [h0]; try rfl), rfl, Below.refl _ _, hw⟩
        | 2, ho =>
          obtain rfl := Option.some.inj ho
          have h1 : v 1 = Value.bool true := hd 1 rfl
          clear hd ho
          refine wpOp_step rfl (fun K' hK' => ?_)
          go_simp
          exact hK' _ _ ⟨_, (by simp only [h1]; try rfl), rfl, Below.refl _ _, hw⟩
        | 3, ho =>
          obtain rfl := Option.some.inj ho
          have h1 : v 1 = Value.bool true := hd 1 rfl
          clear hd ho
          refine wpOp_step rfl (fun K' hK' => ?_)
          go_simp
          exact hK' _ _ ⟨_, (by simp only [h1]; try rfl), rfl, Below.refl _ _, hw⟩
        | 4, ho =>
          obtain rfl := Option.some.inj ho
          have h2 : v 2 = Value.string s := hd 2 rfl
          have h3 : v 3 = Value.int .i64 (K : Int) := hd 3 rfl
          have h1 : v 1 = Value.bool true := hd 1 rfl
          clear hd ho
          refine wpOp_step rfl (fun K' hK' => ?_)
          go_simp
          exact hK' _ _ ⟨_, (by simp only [h2, h3, h1]; try rfl), rfl, Below.refl _ _, hw⟩
        | 5, ho =>
          obtain rfl := Option.some.inj ho
          have h1 : v 1 = Value.bool true := hd 1 rfl
          clear hd ho
          refine wpOp_step rfl (fun K' hK' => ?_)
          go_simp
          exact hK' _ _ ⟨_, (by simp only [h1]; try rfl), rfl, Below.refl _ _, hw⟩
        | 6, ho =>
          obtain rfl := Option.some.inj ho
          have h1 : v 1 = Value.bool true := hd 1 rfl
          clear hd ho
          refine wpOp_step rfl (fun K' hK' => ?_)
          go_simp
          exact hK' _ _ ⟨_, (by simp only [h1]; try rfl), rfl, Below.refl _ _, hw⟩
        | 7, ho =>
          obtain rfl := Option.some.inj ho
          have h1 : v 1 = Value.bool true := hd 1 rfl
          clear hd ho
          refine wpOp_step rfl (fun K' hK' => ?_)
          go_simp
          exact hK' _ _ ⟨_, (by simp only [h1]; try rfl), rfl, Below.refl _ _, hw⟩
        | 8, ho =>
          obtain rfl := Option.some.inj ho
          have h5 : v 5 = Value.string s := hd 5 rfl
          have h6 : v 6 = Value.int .i64 (K : Int) := hd 6 rfl
          have h7 : v 7 = Value.int .i64 (J : Int) := hd 7 rfl
          have h1 : v 1 = Value.bool true := hd 1 rfl
          clear hd ho
          refine wpOp_step rfl (fun K' hK' => ?_)
          go_simp
          exact hK' _ _ ⟨_, (by simp only [h5, h6, h7, h1]; try rfl), rfl, Below.refl _ _, hw⟩
        | 9, ho =>
          obtain rfl := Option.some.inj ho
          have h1 : v 1 = Value.bool true := hd 1 rfl
          clear hd ho
          refine wpOp_step rfl (fun K' hK' => ?_)
          go_simp
          exact hK' _ _ ⟨_, (by simp only [h1]; try rfl), rfl, Below.refl _ _, hw⟩
        | 10, ho =>
          obtain rfl := Option.some.inj ho
          have h1 : v 1 = Value.bool true := hd 1 rfl
          clear hd ho
          refine wpOp_step rfl (fun K' hK' => ?_)
          go_simp
          exact hK' _ _ ⟨_, (by simp only [h1]; try rfl), rfl, Below.refl _ _, hw⟩
        | 11, ho =>
          obtain rfl := Option.some.inj ho
          have h9 : v 9 = Value.string s := hd 9 rfl
          have h10 : v 10 = Value.int .i64 (J : Int) := hd 10 rfl
          have h1 : v 1 = Value.bool true := hd 1 rfl
          clear hd ho
          refine wpOp_step rfl (fun K' hK' => ?_)
          go_simp
          exact hK' _ _ ⟨_, (by simp only [h9, h10, h1]; try rfl), rfl, Below.refl _ _, hw⟩
        | 12, ho =>
          obtain rfl := Option.some.inj ho
          have h4 : v 4 = Value.string A := hd 4 rfl
          have h8 : v 8 = Value.string Bb := hd 8 rfl
          have h11 : v 11 = Value.string C := hd 11 rfl
          have h1 : v 1 = Value.bool true := hd 1 rfl
          clear hd ho
          refine wpOp_step rfl (fun K' hK' => ?_)
          go_simp
          exact hK' _ _ ⟨_, (by simp only [h4, h8, h11, h1]; try rfl), isSl_three _ u _ _ _ hw.2.2, (Below.refl _ _).alloc (Nat.le_refl _) _, ⟨hw.1.alloc hw.1.size _, hw.2.1.below ((Below.refl _ _).alloc (Nat.le_refl _) _) hw.2.2, by simp; have := hw.2.2; omega⟩⟩
        | 13, ho =>
          obtain rfl := Option.some.inj ho
          have h12 : IsSl w.heap.size u (v 12) [A, Bb, C] := hd 12 rfl
          have h1 : v 1 = Value.bool true := hd 1 rfl
          clear hd ho
          have HSL := Lib.hid h12
          clear h12
          refine wpOp_step rfl (fun K' hK' => ?_)
          go_simp
          refine (all_sl (D := D) HSL.out (HG.out.below hw.1 (Nat.le_refl _)) HSZ.out.2.1 (by simp) HLC.out.2.1 (by rw [HCAT.out.2]; exact HD.out)).mono ?_
          rintro e w' ⟨rfl, hb⟩
          exact hK' _ _ ⟨_, (by simp only [h1]; try rfl), rfl, hb, hw.1.trans (hb.mono hw.1.size), hw.2.1.below hb hw.2.2, Nat.lt_of_lt_of_le hw.2.2 hb.size⟩
        | 14, ho =>
          obtain rfl := Option.some.inj ho
          have h1 : v 1 = Value.bool true := hd 1 rfl
          clear hd ho
          refine wpOp_step rfl (fun K' hK' => ?_)
          go_simp
          exact hK' _ _ ⟨_, (by simp only [h1]; try rfl), rfl, Below.refl _ _, hw⟩
        | 15, ho =>
          obtain rfl := Option.some.inj ho
          have h14 : v 14 = Value.string s := hd 14 rfl
          have h1 : v 1 = Value.bool true := hd 1 rfl
          clear hd ho
          refine wpOp_step rfl (fun K' hK' => ?_)
          go_simp
          exact hK' _ _ ⟨_, (by simp only [h14, h1]; try rfl), isSl_one _ u _ hw.2.2, (Below.refl _ _).alloc (Nat.le_refl _) _, ⟨hw.1.alloc hw.1.size _, hw.2.1.below ((Below.refl _ _).alloc (Nat.le_refl _) _) hw.2.2, by simp; have := hw.2.2; omega⟩⟩
        | 16, ho =>
          obtain rfl := Option.some.inj ho
          have h15 : IsSl w.heap.size u (v 15) [s] := hd 15 rfl
          have h1 : v 1 = Value.bool true := hd 1 rfl
          clear hd ho
          have HSL := Lib.hid h15
          clear h15
          refine wpOp_step rfl (fun K' hK' => ?_)
          go_simp
          refine (all_sl (D := D) HSL.out (HG.out.below hw.1 (Nat.le_refl _)) HSZ.out.2.2 (by simp) HLC.out.2.2 (by rw [Mt.cat_one]; exact HD.out)).mono ?_
          rintro e w' ⟨rfl, hb⟩
          exact hK' _ _ ⟨_, (by simp only [h1]; try rfl), rfl, hb, hw.1.trans (hb.mono hw.1.size), hw.2.1.below hb hw.2.2, Nat.lt_of_lt_of_le hw.2.2 hb.size⟩
        | 17, ho =>
          obtain rfl := Option.some.inj ho
          have h13 : v 13 = Value.string D := hd 13 rfl
          have h16 : v 16 = Value.string D := hd 16 rfl
          have h1 : v 1 = Value.bool true := hd 1 rfl
          clear hd ho
          refine wpOp_step rfl (fun K' hK' => ?_)
          go_simp
          exact hK' _ _ ⟨_, (by simp only [h13, h16, h1]; try rfl), rfl, Below.refl _ _, hw⟩
        | 18, ho =>
          obtain rfl := Option.some.inj ho
          have h1 : v 1 = Value.bool true := hd 1 rfl
          have h17 : v 17 = Value.bool true := hd 17 rfl
          clear hd ho
          refine wpOp_step rfl (fun K' hK' => ?_)
          go_simp
          exact hK' _ _ ⟨_, (by simp only [h1, h17]; try rfl), rfl, Below.refl _ _, hw⟩
        | 19, ho =>
          obtain rfl := Option.some.inj ho
          have h18 : v 18 = Value.bool true := hd 18 rfl
          clear hd ho
          refine wpOp_step rfl (fun K' hK' => ?_)
          go_simp
          exact hK' _ _ ⟨_, (by simp only [h18]; try rfl), rfl, Below.refl _ _, hw⟩
        | 20, ho =>
          obtain rfl := Option.some.inj ho
          have h19 : v 19 = Value.bool true := hd 19 rfl
          clear hd ho
          refine wpOp_step rfl (fun K' hK' => ?_)
          go_simp
          exact hK' _ _ ⟨_, (by simp only [h19]; try rfl), rfl, Below.refl _ _, hw⟩
        | 21, ho =>
          obtain rfl := Option.some.inj ho
          have h20 : v 20 = Value.pointer (some ⟨w.heap.size, 0, none⟩) := hd 20 rfl
          have h19 : v 19 = Value.bool true := hd 19 rfl
          clear hd ho
          refine wpOp_step rfl (fun K' hK' => ?_)
          go_simp
          refine (sum_any w.heap.size s.data.toList u hw.2.1 (HG.out.below hw.1 (Nat.le_refl _)) (by rw [← Mt.cat_one]; exact HLC.out.2.2)).mono ?_
          rintro e w' ⟨rfl, hb⟩
          rw [HD.out]
          exact hK' _ _ ⟨_, (by simp only [h20, h19]; try rfl), rfl, hb, hw.1.trans (hb.mono hw.1.size), hw.2.1.below hb hw.2.2, Nat.lt_of_lt_of_le hw.2.2 hb.size⟩
        | 22, ho =>
          obtain rfl := Option.some.inj ho
          have h19 : v 19 = Value.bool true := hd 19 rfl
          clear hd ho
          refine wpOp_step rfl (fun K' hK' => ?_)
          go_simp
          exact hK' _ _ ⟨_, (by simp only [h19]; try rfl), rfl, Below.refl _ _, hw⟩
        | 23, ho =>
          obtain rfl := Option.some.inj ho
          have h22 : v 22 = Value.string s := hd 22 rfl
          have h19 : v 19 = Value.bool true := hd 19 rfl
          clear hd ho
          refine wpOp_step rfl (fun K' hK' => ?_)
          go_simp
          exact hK' _ _ ⟨_, (by simp only [h22, h19]; try rfl), isSl_one _ u _ hw.2.2, (Below.refl _ _).alloc (Nat.le_refl _) _, ⟨hw.1.alloc hw.1.size _, hw.2.1.below ((Below.refl _ _).alloc (Nat.le_refl _) _) hw.2.2, by simp; have := hw.2.2; omega⟩⟩
        | 24, ho =>
          obtain rfl := Option.some.inj ho
          have h23 : IsSl w.heap.size u (v 23) [s] := hd 23 rfl
          have h19 : v 19 = Value.bool true := hd 19 rfl
          clear hd ho
          have HSL := Lib.hid h23
          clear h23
          refine wpOp_step rfl (fun K' hK' => ?_)
          go_simp
          refine (all_sl (D := D) HSL.out (HG.out.below hw.1 (Nat.le_refl _)) HSZ.out.2.2 (by simp) HLC.out.2.2 (by rw [Mt.cat_one]; exact HD.out)).mono ?_
          rintro e w' ⟨rfl, hb⟩
          exact hK' _ _ ⟨_, (by simp only [h19]; try rfl), rfl, hb, hw.1.trans (hb.mono hw.1.size), hw.2.1.below hb hw.2.2, Nat.lt_of_lt_of_le hw.2.2 hb.size⟩
        | 25, ho =>
          obtain rfl := Option.some.inj ho
          have h21 : v 21 = Value.string D := hd 21 rfl
          have h24 : v 24 = Value.string D := hd 24 rfl
          have h19 : v 19 = Value.bool true := hd 19 rfl
          clear hd ho
          refine wpOp_step rfl (fun K' hK' => ?_)
          go_simp
          exact hK' _ _ ⟨_, (by simp only [h21, h24, h19]; try rfl), rfl, Below.refl _ _, hw⟩
        | 26, ho =>
          obtain rfl := Option.some.inj ho
          have h19 : v 19 = Value.bool true := hd 19 rfl
          have h25 : v 25 = Value.bool true := hd 25 rfl
          clear hd ho
          refine wpOp_step rfl (fun K' hK' => ?_)
          go_simp
          exact hK' _ _ ⟨_, (by simp only [h19, h25]; try rfl), rfl, Below.refl _ _, hw⟩
        | 27, ho =>
          obtain rfl := Option.some.inj ho
          have h26 : v 26 = Value.bool true := hd 26 rfl
          clear hd ho
          refine wpOp_step rfl (fun K' hK' => ?_)
          go_simp
          exact hK' _ _ ⟨_, (by simp only [h26]; try rfl), rfl, Below.refl _ _, hw⟩
        | i + 28, ho => cases ho
      case fin9 =>

        intro v u hw hall
        have h27 : v 27 = .bool true := hall 27 (by decide)
        have HW := Lib.hid hw.1
        clear hall hw
        go_wp2_with fail
        go_ret
        exact ⟨by rw [← h27]; rfl, HW.out⟩

/-! The step from the walk to the row. -/
theorem own : ownKnob Tryd.prog.godebug = none := by kernel_rfl
theorem laidOut : laidOutB Tryd.prog = true := by kernel_rfl

set_option maxRecDepth 100000 in
theorem lifted (os : Os) (started : os.Started) (H : Type) (enc : TypeId × Value → H) :
    ReturnsInHanded {} Tryd.checked os 5 .any (fun w args => (Rows.shaPartsSpec.pre enc Tryd.prog Tryd.f5 [] false w args ∧ laidMetH Tryd.prog laid2 w) ∧ sizedMet enc Tryd.prog Tryd.f5 (OpenSpec.ofChange Rows.shaPartsSpec) false w args)
      (Rows.shaPartsSpec.post enc Tryd.prog Tryd.f5 false true false false) := by
  refine returnsInHanded_of_change_and (C := Tryd.checked) (X := fun w _ => laidMetH Tryd.prog laid2 w) (fun _ _ _ hh h => h.of_heap hh) own started (by kernel_rfl) Tryd.func5
    (ChangeSpec.witness_shaped (enc := enc) (C := Tryd.checked) (os := os) (X := fun w _ => laidMetH Tryd.prog laid2 w) false (World.doorLaid Tryd.prog 400 os) #[.string .empty, .int .i64 0, .int .i64 0] 8 rfl (World.shaped_of_RefB (by kernel_rfl) (by kernel_rfl)) (by kernel_rfl) (by kernel_rfl) (by kernel_rfl) (door_met os _)) ?_
  intro W base args ds gs before hval0 hW _ hsz0 hL _
  have hsz : (DataW.weightsEach Tryd.prog (Tryd.f5.params.toList ++ Rows.shaPartsSpec.plain.varTypes Tryd.prog) (ds ++ gs)).all (· ≤ reachBytes) = true := hsz0
  have hG : Laid W := laid_of hL
  have hval : ∀ (j : Nat) t v, Tryd.f5.params[j]? = some t → args[j]? = some v → Value.okWide Tryd.prog W .any base t v := hval0
  have hW' := hW
  obtain ⟨p, q, hA0, hV, rfl, _, _⟩ := hW
  have hA : DataW.TrodAll enc Tryd.prog W 0 (fun _ => true) true Tryd.f5.params.toList args.toList ds p := hA0
  rw [Tryd.params5] at hA hval hsz
  obtain ⟨v0, vs0, d0, ds0, p0, q0, hargs, rfl, rfl, h0, r0⟩ := trodAll_cons hA
  obtain ⟨v1, vs1, d1, ds1, p1, q1, rfl, rfl, rfl, h1, r1⟩ := trodAll_cons r0
  obtain ⟨v2, vs2, d2, ds2, p2, q2, rfl, rfl, rfl, h2, r2⟩ := trodAll_cons r1
  obtain ⟨rfl, rfl, rfl⟩ := trodAll_nil r2
  obtain rfl : args = #[v0, v1, v2] := by cases args; simp_all
  obtain ⟨rfl, rfl⟩ := trodVars_none hV
  obtain ⟨a0, rfl, rfl, rfl, m0⟩ := open_string Tryd.underlying9 (hval 0 9 v0 rfl rfl) h0
  have w0 : a0.size ≤ 140737488351232 := by
    have h : a0.data.toList.length ≤ reachBytes := sized_string hsz (j := 0) (t := 9) rfl rfl
    simpa [reachBytes] using h
  obtain ⟨a1, rfl, rfl, rfl, w1⟩ := open_int Tryd.underlying3 (hval 1 3 v1 rfl rfl) h1
  obtain ⟨a2, rfl, rfl, rfl, w2⟩ := open_int Tryd.underlying3 (hval 2 3 v2 rfl rfl) h2
  clear hA0 hval0
  simp only [List.append_nil] at hW'
  refine (walk a0 a1 a2 w0 w1 w2 W hG).mono fun e W' ⟨he, bel⟩ => ?_
  subst he
  exact ⟨_, rfl, _, _, _, [], _, [], hW', trodAll_mk1 (shut_bool Tryd.underlying4 _), (trodAll_cons_mk (shut_string Tryd.underlying9 m0) (trodAll_cons_mk (shut_int Tryd.underlying3 w1) (trodAll_cons_mk (shut_int Tryd.underlying3 w2) trodAll_mk0))), rfl, bel.frame _, fun h => by cases h⟩

theorem proved : Rows.ShaPartsSaid :=
  OpenClaim.holds_of_wide 5 Tryd.f5 rfl rfl rfl rfl rfl rfl rfl ⟨rfl, rfl, rfl, rfl, rfl⟩ rfl rfl rfl rfl rfl (by kernel_rfl) Tryd.func5 (by kernel_rfl)
    (of_decide_eq_true (by kernel_rfl)) (by unfold Func.isWrapper; first | (rw [if_pos (by decide +kernel)]; kernel_rfl) | (rw [if_neg (by decide +kernel)]; exact ⟨rfl, rfl⟩))
    (fun os started H enc _ => lifted os started H enc)

/-- THE CARD: the row, its two listed variables tied to the program's text (the ties are given). -/
theorem card : Rows.ShaPartsCardSaid :=
  Claim7.holds_tied_plain_at .later [] [.data, .data] true Rows.shaPartsCard.stood.harness Rows.shaPartsCard.stood.looks
    proved (fun _ h => by cases h) (by kernel_rfl) (fun _ h => by cases h) shaParts_row_tie rfl ⟨rfl, rfl⟩ (by kernel_rfl) rfl
    (fun f fn hf hfn => by
      obtain rfl : f = 5 := Option.some.inj ((show Tryd.prog.funcNamed "castellan/castellanlaw03.ShaParts" = some 5 by kernel_rfl).symm.trans hf) |>.symm
      obtain rfl : fn = Tryd.f5 := (Option.some.inj (Tryd.func5.symm.trans hfn)).symm
      exact ⟨by kernel_rfl, fun j t ht => by
        rw [Tryd.params5] at ht
        have hm : t ∈ [9, 3, 3] := by simpa using Array.mem_of_getElem? ht
        have hall : ([9, 3, 3].all fun u => !Tryd.prog.wantsStandIn u) = true := by kernel_rfl
        exact (show Tryd.prog.wantsStandIn t = false by simpa using List.all_eq_true.1 hall t hm)⟩)
    (by kernel_rfl)

#print axioms proved
end Go.Proofs.YtklaaallegidcaaDoor.shaParts
