/-
  CrcParts is proved: how a text is cut makes no difference to crc.Sum and crc.Add. No condition beyond the statement's own (texts of at most 20000 bytes are looked at).
-/
import Derived.Test.YtfcfhfaccpiffaaRows
import Derived.Test.YtfcfhfaccpiffaaRCrc
import Derived.Test.YtfcfhfaccpiffaaRegion
import Derived.ProofKit
import Derived.OpenShut
import Derived.ShutString
import Derived.SizedLaws
namespace Go.Proofs.Ytfcfhfaccpiffaa.crcParts
open Go.ChangeShapes Go.WideShapes Go.ChangeAt Go.RowKit
open Go.ChangeMaps (open_string shut_string)
set_option linter.unusedVariables false

def goods (s A B : ByteArray) (K Q QA : Nat) : List (Value ⊕ List ByteArray) := [.inl (.bool true), .inl (.bool true), .inl (.string s), .inl (.int .i64 (K : Int)), .inl (.string A), .inl (.string s), .inl (.int .i64 (K : Int)), .inl (.string B), .inr [A, B], .inl (.int .u32 (Q : Int)), .inl (.string s), .inr [s], .inl (.int .u32 (Q : Int)), .inl (.bool true), .inl (.bool true), .inl (.bool true), .inl (.string s), .inl (.int .i64 (K : Int)), .inl (.string A), .inr [A], .inl (.int .u32 (QA : Int)), .inl (.string s), .inl (.int .i64 (K : Int)), .inl (.string B), .inr [B], .inl (.int .u32 (Q : Int)), .inl (.string s), .inr [s], .inl (.int .u32 (Q : Int)), .inl (.bool true), .inl (.bool true), .inl (.bool true), .inl (.string s), .inr [s], .inl (.int .u32 (Q : Int)), .inr [ByteArray.empty], .inl (.int .u32 (Q : Int)), .inl (.string s), .inr [s], .inl (.int .u32 (Q : Int)), .inl (.bool true), .inl (.bool true), .inl (.bool true)]
/-- A slice of texts of the call's own. -/
def IsSl (w : World) (v : Value) (ss : List ByteArray) : Prop :=
  ∃ g, v = .slice (some ⟨g, 0, none⟩) ss.length ss.length ∧ ∀ i (hi : i < ss.length), w.cell? ⟨g, 0 + i, none⟩ = some (.string ss[i])
/-- What the slot of operation i comes to hold. -/
def GoodAt (l : List (Value ⊕ List ByteArray)) (i : Nat) (x : Value) (w : World) : Prop :=
  match l[i]? with
  | some (.inl c) => x = c
  | some (.inr ss) => IsSl w x ss
  | none => True
theorem IsSl.later {w w' : World} {v : Value} {ss : List ByteArray} (h : IsSl w v ss) (hb : Below w.heap.size w w') : IsSl w' v ss := by
  obtain ⟨g, hg, hc⟩ := h
  refine ⟨g, hg, fun i hi => ?_⟩
  have hblk : g < w.heap.size := World.block_lt_of_cell? w ⟨g, 0 + i, none⟩ (hc i hi)
  rw [hb.cell (p := ⟨g, 0 + i, none⟩) hblk]
  exact hc i hi
theorem goodAt_mono (l : List (Value ⊕ List ByteArray)) (i : Nat) (x : Value) (w w' : World) (hb : Below w.heap.size w w') (h : GoodAt l i x w) : GoodAt l i x w' := by
  unfold GoodAt at h ⊢
  split
  · rename_i c hc; rw [hc] at h; exact h
  · rename_i ss hc; rw [hc] at h; exact IsSl.later h hb
  · trivial
theorem isSl_one (w : World) (a : ByteArray) : IsSl (w.alloc (.cells #[.string a] 9)) (.slice (some ⟨w.heap.size, 0, none⟩) 1 1) [a] :=
  ⟨w.heap.size, rfl, fun i hi => by
    obtain rfl : i = 0 := by simpa using hi
    exact cell_one_new w (.string a) 9 0 (.string a) rfl⟩
theorem isSl_two (w : World) (a b : ByteArray) : IsSl (w.alloc (.cells #[.string a, .string b] 9)) (.slice (some ⟨w.heap.size, 0, none⟩) 2 2) [a, b] :=
  ⟨w.heap.size, rfl, fun i hi => by
    rw [cell_two w _ _ _ i hi]
    match i, hi with
    | 0, _ => rfl
    | 1, _ => rfl⟩
theorem sum_sl {u : World} {x : Value} {ss : List ByteArray} {r : Nat} (h : IsSl u x ss) (hn : ss.length ≤ 9223372036854775807) (hs : ∀ p ∈ ss, p.size ≤ 9223372036854775807) (hr : Mt.addS 0 (Mt.cat ss) = r) :
    Calls Try.prog 29 #[x] u fun e w' => e = .returned (.int .u32 r) ∧ u = w' := by
  obtain ⟨g, rfl, hc⟩ := h
  subst hr
  exact sum_some g 0 ss.length ss u hn hs hc
theorem add_sl {u : World} {x : Value} {ss : List ByteArray} {m r : Nat} (h : IsSl u x ss) (hn : ss.length ≤ 9223372036854775807) (hs : ∀ p ∈ ss, p.size ≤ 9223372036854775807) (hm : m < 4294967296) (hr : Mt.addS m (Mt.cat ss) = r) :
    Calls Try.prog 31 #[.int .u32 m, x] u fun e w' => e = .returned (.int .u32 r) ∧ u = w' := by
  obtain ⟨g, rfl, hc⟩ := h
  subst hr
  exact add_some m g 0 ss.length ss u hm hn hs hc

theorem cut_cat (s : ByteArray) (K : Nat) (h : K ≤ s.size) : (s.extract 0 K).data.toList ++ (s.extract K s.size).data.toList = s.data.toList := by
  have hl : s.data.toList.length = s.size := rfl
  simp only [ByteArray.data_extract, Array.toList_extract, List.extract, List.drop_zero, Nat.sub_zero]
  rw [List.take_of_length_le (l := s.data.toList.drop K) (by simp)]
  exact List.take_append_drop K _

set_option maxHeartbeats 800000 in
set_option maxRecDepth 100000 in
theorem walk (s : ByteArray) (at' : Int) (w0 : s.size ≤ 140737488351232) (w1 : (Lit.int .i64 at').wf = true) (w : World) :
    Calls Try.prog 12 #[.string s, .int .i64 at'] w fun e w' => e = .returned (.bool true) ∧ Below w.heap.size w w' := by
  by_cases hbig : 20000 < s.size
  · have t1 : (20000 : Int) < (s.size : Int) := by omega
    clear hbig
    go_enter Try.func12, Try.ntmps12
    go_wp2_with fail
    refine (awake2_any _).mono ?_
    rintro e w1 ⟨rfl, hb1⟩
    have H1 := Lib.hid hb1
    clear hb1
    go_wp2_with fail
    go_ret
    exact ⟨rfl, H1.out⟩
  · have hs2 : (s.size : Int) ≤ 20000 := by omega
    obtain ⟨K, hKs, hK⟩ : ∃ K : Nat, K ≤ s.size ∧ wrap64 ((IntKind.u64.wrap at').tmod ((s.size : Int) + 1)) = (K : Int) := by
      have h0 := wrap_u64_nonneg at'
      obtain ⟨u, hu⟩ := Int.eq_ofNat_of_zero_le h0
      rw [hu, Int.tmod_eq_emod_of_nonneg (by omega)]
      have e : ((s.size : Int) + 1) = ((s.size + 1 : Nat) : Int) := by omega
      rw [e]
      have hlt : u % (s.size + 1) < s.size + 1 := Nat.mod_lt _ (by omega)
      refine ⟨u % (s.size + 1), by omega, ?_⟩
      rw [← Int.natCast_emod]
      simp only [wrap64]; omega
    have HK := Lib.hid hK
    clear hbig w0 w1 hK
    obtain ⟨A, hA⟩ : ∃ A, s.extract 0 K = A := ⟨_, rfl⟩
    obtain ⟨B, hB⟩ : ∃ B, s.extract K s.size = B := ⟨_, rfl⟩
    have hcat : A.data.toList ++ B.data.toList = s.data.toList := by rw [← hA, ← hB]; exact cut_cat s K hKs
    have hAs : A.size ≤ s.size := by have := congrArg List.length hcat; simp only [List.length_append] at this; have e : A.data.toList.length = A.size := rfl; have e2 : s.data.toList.length = s.size := rfl; omega
    have hBs : B.size ≤ s.size := by have := congrArg List.length hcat; simp only [List.length_append] at this; have e : B.data.toList.length = B.size := rfl; have e2 : s.data.toList.length = s.size := rfl; omega
    obtain ⟨Q, hQ⟩ : ∃ Q, Mt.addS 0 s.data.toList = Q := ⟨_, rfl⟩
    obtain ⟨QA, hQA⟩ : ∃ QA, Mt.addS 0 A.data.toList = QA := ⟨_, rfl⟩
    have HE := Lib.hid (show Mt.addS 0 (Mt.cat [A, B]) = Q ∧ Mt.addS 0 (Mt.cat [s]) = Q ∧ Mt.addS 0 (Mt.cat [A]) = QA ∧ Mt.addS QA (Mt.cat [B]) = Q ∧ Mt.addS Q (Mt.cat [ByteArray.empty]) = Q from by
      have hz : (0 : Nat) < 4294967296 := by omega
      refine ⟨by rw [← hQ, ← hcat]; simp [Mt.cat], by rw [← hQ]; simp [Mt.cat], by rw [← hQA]; simp [Mt.cat], ?_, ?_⟩
      · rw [← hQ, ← hQA, ← hcat, ← Mt.addS_append hz]; simp [Mt.cat]
      · have hl := Mt.addS_lt 0 s.data.toList
        rw [hQ] at hl
        have e : Mt.cat [ByteArray.empty] = [] := by simp [Mt.cat]
        rw [e]; exact Mt.addS_nil hl)
    have HM := Lib.hid (show QA < 4294967296 ∧ Q < 4294967296 from ⟨by rw [← hQA]; exact Mt.addS_lt _ _, by rw [← hQ]; exact Mt.addS_lt _ _⟩)
    have HSZ := Lib.hid (show (∀ p ∈ [A, B], p.size ≤ 9223372036854775807) ∧ (∀ p ∈ [s], p.size ≤ 9223372036854775807) ∧ (∀ p ∈ [A], p.size ≤ 9223372036854775807) ∧ (∀ p ∈ [B], p.size ≤ 9223372036854775807) ∧ (∀ p ∈ [ByteArray.empty], p.size ≤ 9223372036854775807) from by
      refine ⟨?_, ?_, ?_, ?_, ?_⟩ <;> simp <;> omega)
    have hK0 : (0 : Int) ≤ (K : Int) := by omega
    have hK1 : (K : Int) ≤ (s.size : Int) := by omega
    clear hcat hAs hBs hQ hQA
    go_enter Try.func12, Try.ntmps12
    go_wp2_with fail
    rw [HK.out]
    refine wp_region_inv (by kernel_rfl) (fun v => ⟨#[.string s, .int .i64 at', undef, undef, v 42, .int .i64 (K : Int), .string s, .int .i64 (s.size : Int), .bool (decide ((20000 : Int) < (s.size : Int))), undef, .int .i64 at', .int .u64 (IntKind.u64.wrap at'), .string s, .int .i64 (s.size : Int), .int .i64 ((s.size : Int) + 1), .int .u64 ((s.size : Int) + 1), .int .u64 ((IntKind.u64.wrap at').tmod ((s.size : Int) + 1)), .int .i64 (K : Int), v 0, v 1, v 2, v 3, v 4, v 5, v 6, v 7, v 8, v 9, v 10, v 11, v 12, v 13, v 14, v 15, v 16, v 17, v 18, v 19, v 20, v 21, v 22, v 23, v 24, v 25, v 26, v 27, v 28, v 29, v 30, v 31, v 32, v 33, v 34, v 35, v 36, v 37, v 38, v 39, v 40, v 41], []⟩) (GoodAt (goods s A B K Q QA)) (fun u => Below w.heap.size w u) (fun i => if i = 42 then .bool false else undef) w ?hback ?hput ?mono ?step ?h0 ?fin
    case hback => kernel_rfl
    case hput =>
      intro i o ho v x
      match i, ho with
      | 0, ho => obtain rfl := Option.some.inj ho; rfl
      | 1, ho => obtain rfl := Option.some.inj ho; rfl
      | 2, ho => obtain rfl := Option.some.inj ho; rfl
      | 3, ho => obtain rfl := Option.some.inj ho; rfl
      | 4, ho => obtain rfl := Option.some.inj ho; rfl
      | 5, ho => obtain rfl := Option.some.inj ho; rfl
      | 6, ho => obtain rfl := Option.some.inj ho; rfl
      | 7, ho => obtain rfl := Option.some.inj ho; rfl
      | 8, ho => obtain rfl := Option.some.inj ho; rfl
      | 9, ho => obtain rfl := Option.some.inj ho; rfl
      | 10, ho => obtain rfl := Option.some.inj ho; rfl
      | 11, ho => obtain rfl := Option.some.inj ho; rfl
      | 12, ho => obtain rfl := Option.some.inj ho; rfl
      | 13, ho => obtain rfl := Option.some.inj ho; rfl
      | 14, ho => obtain rfl := Option.some.inj ho; rfl
      | 15, ho => obtain rfl := Option.some.inj ho; rfl
      | 16, ho => obtain rfl := Option.some.inj ho; rfl
      | 17, ho => obtain rfl := Option.some.inj ho; rfl
      | 18, ho => obtain rfl := Option.some.inj ho; rfl
      | 19, ho => obtain rfl := Option.some.inj ho; rfl
      | 20, ho => obtain rfl := Option.some.inj ho; rfl
      | 21, ho => obtain rfl := Option.some.inj ho; rfl
      | 22, ho => obtain rfl := Option.some.inj ho; rfl
      | 23, ho => obtain rfl := Option.some.inj ho; rfl
      | 24, ho => obtain rfl := Option.some.inj ho; rfl
      | 25, ho => obtain rfl := Option.some.inj ho; rfl
      | 26, ho => obtain rfl := Option.some.inj ho; rfl
      | 27, ho => obtain rfl := Option.some.inj ho; rfl
      | 28, ho => obtain rfl := Option.some.inj ho; rfl
      | 29, ho => obtain rfl := Option.some.inj ho; rfl
      | 30, ho => obtain rfl := Option.some.inj ho; rfl
      | 31, ho => obtain rfl := Option.some.inj ho; rfl
      | 32, ho => obtain rfl := Option.some.inj ho; rfl
      | 33, ho => obtain rfl := Option.some.inj ho; rfl
      | 34, ho => obtain rfl := Option.some.inj ho; rfl
      | 35, ho => obtain rfl := Option.some.inj ho; rfl
      | 36, ho => obtain rfl := Option.some.inj ho; rfl
      | 37, ho => obtain rfl := Option.some.inj ho; rfl
      | 38, ho => obtain rfl := Option.some.inj ho; rfl
      | 39, ho => obtain rfl := Option.some.inj ho; rfl
      | 40, ho => obtain rfl := Option.some.inj ho; rfl
      | 41, ho => obtain rfl := Option.some.inj ho; rfl
      | 42, ho => obtain rfl := Option.some.inj ho; rfl
      | i + 43, ho => cases ho
    case mono => exact goodAt_mono _
    case h0 => exact (Below.refl _ _).drew
    case step =>
      intro i o ho v u hw hd
      match i, ho with
      | 0, ho =>
        obtain rfl := Option.some.inj ho
        clear hd ho
        refine wpOp_step rfl (fun K' hK' => ?_)
        go_simp
        refine (awake2_any _).mono ?_
        rintro e w' ⟨rfl, hb⟩
        exact hK' _ _ ⟨_, rfl, rfl, hb, hw.trans (hb.mono hw.size)⟩
      | 1, ho =>
        obtain rfl := Option.some.inj ho
        have h0 := hd 0 rfl
        replace h0 : v 0 = .bool true := h0
        clear hd ho
        refine wpOp_step rfl (fun K' hK' => ?_)
        go_simp
        exact hK' _ _ ⟨_, (by simp only [h0]; try rfl), rfl, Below.refl _ _, hw⟩
      | 2, ho =>
        obtain rfl := Option.some.inj ho
        have h1 := hd 1 rfl
        replace h1 : v 1 = .bool true := h1
        clear hd ho
        refine wpOp_step rfl (fun K' hK' => ?_)
        go_simp
        exact hK' _ _ ⟨_, (by simp only [h1]; try rfl), rfl, Below.refl _ _, hw⟩
      | 3, ho =>
        obtain rfl := Option.some.inj ho
        have h1 := hd 1 rfl
        replace h1 : v 1 = .bool true := h1
        clear hd ho
        refine wpOp_step rfl (fun K' hK' => ?_)
        go_simp
        exact hK' _ _ ⟨_, (by simp only [h1]; try rfl), rfl, Below.refl _ _, hw⟩
      | 4, ho =>
        obtain rfl := Option.some.inj ho
        have h2 := hd 2 rfl
        replace h2 : v 2 = .string s := h2
        have h3 := hd 3 rfl
        replace h3 : v 3 = .int .i64 (K : Int) := h3
        have h1 := hd 1 rfl
        replace h1 : v 1 = .bool true := h1
        clear hd ho
        refine wpOp_step rfl (fun K' hK' => ?_)
        go_simp
        exact hK' _ _ ⟨_, (by simp only [h2, h3, h1]; try rfl), rfl, Below.refl _ _, hw⟩
      | 5, ho =>
        obtain rfl := Option.some.inj ho
        have h1 := hd 1 rfl
        replace h1 : v 1 = .bool true := h1
        clear hd ho
        refine wpOp_step rfl (fun K' hK' => ?_)
        go_simp
        exact hK' _ _ ⟨_, (by simp only [h1]; try rfl), rfl, Below.refl _ _, hw⟩
      | 6, ho =>
        obtain rfl := Option.some.inj ho
        have h1 := hd 1 rfl
        replace h1 : v 1 = .bool true := h1
        clear hd ho
        refine wpOp_step rfl (fun K' hK' => ?_)
        go_simp
        exact hK' _ _ ⟨_, (by simp only [h1]; try rfl), rfl, Below.refl _ _, hw⟩
      | 7, ho =>
        obtain rfl := Option.some.inj ho
        have h5 := hd 5 rfl
        replace h5 : v 5 = .string s := h5
        have h6 := hd 6 rfl
        replace h6 : v 6 = .int .i64 (K : Int) := h6
        have h1 := hd 1 rfl
        replace h1 : v 1 = .bool true := h1
        clear hd ho
        refine wpOp_step rfl (fun K' hK' => ?_)
        go_simp
        exact hK' _ _ ⟨_, (by simp only [h5, h6, h1]; try rfl), rfl, Below.refl _ _, hw⟩
      | 8, ho =>
        obtain rfl := Option.some.inj ho
        have h4 := hd 4 rfl
        replace h4 : v 4 = .string A := h4
        have h7 := hd 7 rfl
        replace h7 : v 7 = .string B := h7
        have h1 := hd 1 rfl
        replace h1 : v 1 = .bool true := h1
        clear hd ho
        refine wpOp_step rfl (fun K' hK' => ?_)
        go_simp
        exact hK' _ _ ⟨_, (by simp only [h4, h7, h1]; try rfl), isSl_two u A B, (Below.refl _ _).alloc (Nat.le_refl _) _, hw.alloc hw.size _⟩
      | 9, ho =>
        obtain rfl := Option.some.inj ho
        have h8 := hd 8 rfl
        replace h8 : IsSl u (v 8) [A, B] := h8
        have h1 := hd 1 rfl
        replace h1 : v 1 = .bool true := h1
        clear hd ho
        have HSL := Lib.hid h8
        clear h8
        refine wpOp_step rfl (fun K' hK' => ?_)
        go_simp
        refine (sum_sl HSL.out (by simp) HSZ.out.1 HE.out.1).mono ?_
        rintro e w' ⟨rfl, rfl⟩
        exact hK' _ _ ⟨_, (by simp only [h1]; try rfl), rfl, Below.refl _ _, hw⟩
      | 10, ho =>
        obtain rfl := Option.some.inj ho
        have h1 := hd 1 rfl
        replace h1 : v 1 = .bool true := h1
        clear hd ho
        refine wpOp_step rfl (fun K' hK' => ?_)
        go_simp
        exact hK' _ _ ⟨_, (by simp only [h1]; try rfl), rfl, Below.refl _ _, hw⟩
      | 11, ho =>
        obtain rfl := Option.some.inj ho
        have h10 := hd 10 rfl
        replace h10 : v 10 = .string s := h10
        have h1 := hd 1 rfl
        replace h1 : v 1 = .bool true := h1
        clear hd ho
        refine wpOp_step rfl (fun K' hK' => ?_)
        go_simp
        exact hK' _ _ ⟨_, (by simp only [h10, h1]; try rfl), isSl_one u s, (Below.refl _ _).alloc (Nat.le_refl _) _, hw.alloc hw.size _⟩
      | 12, ho =>
        obtain rfl := Option.some.inj ho
        have h11 := hd 11 rfl
        replace h11 : IsSl u (v 11) [s] := h11
        have h1 := hd 1 rfl
        replace h1 : v 1 = .bool true := h1
        clear hd ho
        have HSL := Lib.hid h11
        clear h11
        refine wpOp_step rfl (fun K' hK' => ?_)
        go_simp
        refine (sum_sl HSL.out (by simp) HSZ.out.2.1 HE.out.2.1).mono ?_
        rintro e w' ⟨rfl, rfl⟩
        exact hK' _ _ ⟨_, (by simp only [h1]; try rfl), rfl, Below.refl _ _, hw⟩
      | 13, ho =>
        obtain rfl := Option.some.inj ho
        have h9 := hd 9 rfl
        replace h9 : v 9 = .int .u32 (Q : Int) := h9
        have h12 := hd 12 rfl
        replace h12 : v 12 = .int .u32 (Q : Int) := h12
        have h1 := hd 1 rfl
        replace h1 : v 1 = .bool true := h1
        clear hd ho
        refine wpOp_step rfl (fun K' hK' => ?_)
        go_simp
        exact hK' _ _ ⟨_, (by simp only [h9, h12, h1]; try rfl), rfl, Below.refl _ _, hw⟩
      | 14, ho =>
        obtain rfl := Option.some.inj ho
        have h1 := hd 1 rfl
        replace h1 : v 1 = .bool true := h1
        have h13 := hd 13 rfl
        replace h13 : v 13 = .bool true := h13
        clear hd ho
        refine wpOp_step rfl (fun K' hK' => ?_)
        go_simp
        exact hK' _ _ ⟨_, (by simp only [h1, h13]; try rfl), rfl, Below.refl _ _, hw⟩
      | 15, ho =>
        obtain rfl := Option.some.inj ho
        have h14 := hd 14 rfl
        replace h14 : v 14 = .bool true := h14
        clear hd ho
        refine wpOp_step rfl (fun K' hK' => ?_)
        go_simp
        exact hK' _ _ ⟨_, (by simp only [h14]; try rfl), rfl, Below.refl _ _, hw⟩
      | 16, ho =>
        obtain rfl := Option.some.inj ho
        have h15 := hd 15 rfl
        replace h15 : v 15 = .bool true := h15
        clear hd ho
        refine wpOp_step rfl (fun K' hK' => ?_)
        go_simp
        exact hK' _ _ ⟨_, (by simp only [h15]; try rfl), rfl, Below.refl _ _, hw⟩
      | 17, ho =>
        obtain rfl := Option.some.inj ho
        have h15 := hd 15 rfl
        replace h15 : v 15 = .bool true := h15
        clear hd ho
        refine wpOp_step rfl (fun K' hK' => ?_)
        go_simp
        exact hK' _ _ ⟨_, (by simp only [h15]; try rfl), rfl, Below.refl _ _, hw⟩
      | 18, ho =>
        obtain rfl := Option.some.inj ho
        have h16 := hd 16 rfl
        replace h16 : v 16 = .string s := h16
        have h17 := hd 17 rfl
        replace h17 : v 17 = .int .i64 (K : Int) := h17
        have h15 := hd 15 rfl
        replace h15 : v 15 = .bool true := h15
        clear hd ho
        refine wpOp_step rfl (fun K' hK' => ?_)
        go_simp
        exact hK' _ _ ⟨_, (by simp only [h16, h17, h15]; try rfl), rfl, Below.refl _ _, hw⟩
      | 19, ho =>
        obtain rfl := Option.some.inj ho
        have h18 := hd 18 rfl
        replace h18 : v 18 = .string A := h18
        have h15 := hd 15 rfl
        replace h15 : v 15 = .bool true := h15
        clear hd ho
        refine wpOp_step rfl (fun K' hK' => ?_)
        go_simp
        exact hK' _ _ ⟨_, (by simp only [h18, h15]; try rfl), isSl_one u A, (Below.refl _ _).alloc (Nat.le_refl _) _, hw.alloc hw.size _⟩
      | 20, ho =>
        obtain rfl := Option.some.inj ho
        have h19 := hd 19 rfl
        replace h19 : IsSl u (v 19) [A] := h19
        have h15 := hd 15 rfl
        replace h15 : v 15 = .bool true := h15
        clear hd ho
        have HSL := Lib.hid h19
        clear h19
        refine wpOp_step rfl (fun K' hK' => ?_)
        go_simp
        refine (sum_sl HSL.out (by simp) HSZ.out.2.2.1 HE.out.2.2.1).mono ?_
        rintro e w' ⟨rfl, rfl⟩
        exact hK' _ _ ⟨_, (by simp only [h15]; try rfl), rfl, Below.refl _ _, hw⟩
      | 21, ho =>
        obtain rfl := Option.some.inj ho
        have h15 := hd 15 rfl
        replace h15 : v 15 = .bool true := h15
        clear hd ho
        refine wpOp_step rfl (fun K' hK' => ?_)
        go_simp
        exact hK' _ _ ⟨_, (by simp only [h15]; try rfl), rfl, Below.refl _ _, hw⟩
      | 22, ho =>
        obtain rfl := Option.some.inj ho
        have h15 := hd 15 rfl
        replace h15 : v 15 = .bool true := h15
        clear hd ho
        refine wpOp_step rfl (fun K' hK' => ?_)
        go_simp
        exact hK' _ _ ⟨_, (by simp only [h15]; try rfl), rfl, Below.refl _ _, hw⟩
      | 23, ho =>
        obtain rfl := Option.some.inj ho
        have h21 := hd 21 rfl
        replace h21 : v 21 = .string s := h21
        have h22 := hd 22 rfl
        replace h22 : v 22 = .int .i64 (K : Int) := h22
        have h15 := hd 15 rfl
        replace h15 : v 15 = .bool true := h15
        clear hd ho
        refine wpOp_step rfl (fun K' hK' => ?_)
        go_simp
        exact hK' _ _ ⟨_, (by simp only [h21, h22, h15]; try rfl), rfl, Below.refl _ _, hw⟩
      | 24, ho =>
        obtain rfl := Option.some.inj ho
        have h23 := hd 23 rfl
        replace h23 : v 23 = .string B := h23
        have h15 := hd 15 rfl
        replace h15 : v 15 = .bool true := h15
        clear hd ho
        refine wpOp_step rfl (fun K' hK' => ?_)
        go_simp
        exact hK' _ _ ⟨_, (by simp only [h23, h15]; try rfl), isSl_one u B, (Below.refl _ _).alloc (Nat.le_refl _) _, hw.alloc hw.size _⟩
      | 25, ho =>
        obtain rfl := Option.some.inj ho
        have h20 := hd 20 rfl
        replace h20 : v 20 = .int .u32 (QA : Int) := h20
        have h24 := hd 24 rfl
        replace h24 : IsSl u (v 24) [B] := h24
        have h15 := hd 15 rfl
        replace h15 : v 15 = .bool true := h15
        clear hd ho
        have HSL := Lib.hid h24
        clear h24
        refine wpOp_step rfl (fun K' hK' => ?_)
        go_simp
        refine (add_sl HSL.out (by simp) HSZ.out.2.2.2.1 HM.out.1 HE.out.2.2.2.1).mono ?_
        rintro e w' ⟨rfl, rfl⟩
        exact hK' _ _ ⟨_, (by simp only [h20, h15]; try rfl), rfl, Below.refl _ _, hw⟩
      | 26, ho =>
        obtain rfl := Option.some.inj ho
        have h15 := hd 15 rfl
        replace h15 : v 15 = .bool true := h15
        clear hd ho
        refine wpOp_step rfl (fun K' hK' => ?_)
        go_simp
        exact hK' _ _ ⟨_, (by simp only [h15]; try rfl), rfl, Below.refl _ _, hw⟩
      | 27, ho =>
        obtain rfl := Option.some.inj ho
        have h26 := hd 26 rfl
        replace h26 : v 26 = .string s := h26
        have h15 := hd 15 rfl
        replace h15 : v 15 = .bool true := h15
        clear hd ho
        refine wpOp_step rfl (fun K' hK' => ?_)
        go_simp
        exact hK' _ _ ⟨_, (by simp only [h26, h15]; try rfl), isSl_one u s, (Below.refl _ _).alloc (Nat.le_refl _) _, hw.alloc hw.size _⟩
      | 28, ho =>
        obtain rfl := Option.some.inj ho
        have h27 := hd 27 rfl
        replace h27 : IsSl u (v 27) [s] := h27
        have h15 := hd 15 rfl
        replace h15 : v 15 = .bool true := h15
        clear hd ho
        have HSL := Lib.hid h27
        clear h27
        refine wpOp_step rfl (fun K' hK' => ?_)
        go_simp
        refine (sum_sl HSL.out (by simp) HSZ.out.2.1 HE.out.2.1).mono ?_
        rintro e w' ⟨rfl, rfl⟩
        exact hK' _ _ ⟨_, (by simp only [h15]; try rfl), rfl, Below.refl _ _, hw⟩
      | 29, ho =>
        obtain rfl := Option.some.inj ho
        have h25 := hd 25 rfl
        replace h25 : v 25 = .int .u32 (Q : Int) := h25
        have h28 := hd 28 rfl
        replace h28 : v 28 = .int .u32 (Q : Int) := h28
        have h15 := hd 15 rfl
        replace h15 : v 15 = .bool true := h15
        clear hd ho
        refine wpOp_step rfl (fun K' hK' => ?_)
        go_simp
        exact hK' _ _ ⟨_, (by simp only [h25, h28, h15]; try rfl), rfl, Below.refl _ _, hw⟩
      | 30, ho =>
        obtain rfl := Option.some.inj ho
        have h15 := hd 15 rfl
        replace h15 : v 15 = .bool true := h15
        have h29 := hd 29 rfl
        replace h29 : v 29 = .bool true := h29
        clear hd ho
        refine wpOp_step rfl (fun K' hK' => ?_)
        go_simp
        exact hK' _ _ ⟨_, (by simp only [h15, h29]; try rfl), rfl, Below.refl _ _, hw⟩
      | 31, ho =>
        obtain rfl := Option.some.inj ho
        have h30 := hd 30 rfl
        replace h30 : v 30 = .bool true := h30
        clear hd ho
        refine wpOp_step rfl (fun K' hK' => ?_)
        go_simp
        exact hK' _ _ ⟨_, (by simp only [h30]; try rfl), rfl, Below.refl _ _, hw⟩
      | 32, ho =>
        obtain rfl := Option.some.inj ho
        have h31 := hd 31 rfl
        replace h31 : v 31 = .bool true := h31
        clear hd ho
        refine wpOp_step rfl (fun K' hK' => ?_)
        go_simp
        exact hK' _ _ ⟨_, (by simp only [h31]; try rfl), rfl, Below.refl _ _, hw⟩
      | 33, ho =>
        obtain rfl := Option.some.inj ho
        have h32 := hd 32 rfl
        replace h32 : v 32 = .string s := h32
        have h31 := hd 31 rfl
        replace h31 : v 31 = .bool true := h31
        clear hd ho
        refine wpOp_step rfl (fun K' hK' => ?_)
        go_simp
        exact hK' _ _ ⟨_, (by simp only [h32, h31]; try rfl), isSl_one u s, (Below.refl _ _).alloc (Nat.le_refl _) _, hw.alloc hw.size _⟩
      | 34, ho =>
        obtain rfl := Option.some.inj ho
        have h33 := hd 33 rfl
        replace h33 : IsSl u (v 33) [s] := h33
        have h31 := hd 31 rfl
        replace h31 : v 31 = .bool true := h31
        clear hd ho
        have HSL := Lib.hid h33
        clear h33
        refine wpOp_step rfl (fun K' hK' => ?_)
        go_simp
        refine (sum_sl HSL.out (by simp) HSZ.out.2.1 HE.out.2.1).mono ?_
        rintro e w' ⟨rfl, rfl⟩
        exact hK' _ _ ⟨_, (by simp only [h31]; try rfl), rfl, Below.refl _ _, hw⟩
      | 35, ho =>
        obtain rfl := Option.some.inj ho
        have h31 := hd 31 rfl
        replace h31 : v 31 = .bool true := h31
        clear hd ho
        refine wpOp_step rfl (fun K' hK' => ?_)
        go_simp
        exact hK' _ _ ⟨_, (by simp only [h31]; try rfl), isSl_one u ByteArray.empty, (Below.refl _ _).alloc (Nat.le_refl _) _, hw.alloc hw.size _⟩
      | 36, ho =>
        obtain rfl := Option.some.inj ho
        have h34 := hd 34 rfl
        replace h34 : v 34 = .int .u32 (Q : Int) := h34
        have h35 := hd 35 rfl
        replace h35 : IsSl u (v 35) [ByteArray.empty] := h35
        have h31 := hd 31 rfl
        replace h31 : v 31 = .bool true := h31
        clear hd ho
        have HSL := Lib.hid h35
        clear h35
        refine wpOp_step rfl (fun K' hK' => ?_)
        go_simp
        refine (add_sl HSL.out (by simp) HSZ.out.2.2.2.2 HM.out.2 HE.out.2.2.2.2).mono ?_
        rintro e w' ⟨rfl, rfl⟩
        exact hK' _ _ ⟨_, (by simp only [h34, h31]; try rfl), rfl, Below.refl _ _, hw⟩
      | 37, ho =>
        obtain rfl := Option.some.inj ho
        have h31 := hd 31 rfl
        replace h31 : v 31 = .bool true := h31
        clear hd ho
        refine wpOp_step rfl (fun K' hK' => ?_)
        go_simp
        exact hK' _ _ ⟨_, (by simp only [h31]; try rfl), rfl, Below.refl _ _, hw⟩
      | 38, ho =>
        obtain rfl := Option.some.inj ho
        have h37 := hd 37 rfl
        replace h37 : v 37 = .string s := h37
        have h31 := hd 31 rfl
        replace h31 : v 31 = .bool true := h31
        clear hd ho
        refine wpOp_step rfl (fun K' hK' => ?_)
        go_simp
        exact hK' _ _ ⟨_, (by simp only [h37, h31]; try rfl), isSl_one u s, (Below.refl _ _).alloc (Nat.le_refl _) _, hw.alloc hw.size _⟩
      | 39, ho =>
        obtain rfl := Option.some.inj ho
        have h38 := hd 38 rfl
        replace h38 : IsSl u (v 38) [s] := h38
        have h31 := hd 31 rfl
        replace h31 : v 31 = .bool true := h31
        clear hd ho
        have HSL := Lib.hid h38
        clear h38
        refine wpOp_step rfl (fun K' hK' => ?_)
        go_simp
        refine (sum_sl HSL.out (by simp) HSZ.out.2.1 HE.out.2.1).mono ?_
        rintro e w' ⟨rfl, rfl⟩
        exact hK' _ _ ⟨_, (by simp only [h31]; try rfl), rfl, Below.refl _ _, hw⟩
      | 40, ho =>
        obtain rfl := Option.some.inj ho
        have h36 := hd 36 rfl
        replace h36 : v 36 = .int .u32 (Q : Int) := h36
        have h39 := hd 39 rfl
        replace h39 : v 39 = .int .u32 (Q : Int) := h39
        have h31 := hd 31 rfl
        replace h31 : v 31 = .bool true := h31
        clear hd ho
        refine wpOp_step rfl (fun K' hK' => ?_)
        go_simp
        exact hK' _ _ ⟨_, (by simp only [h36, h39, h31]; try rfl), rfl, Below.refl _ _, hw⟩
      | 41, ho =>
        obtain rfl := Option.some.inj ho
        have h31 := hd 31 rfl
        replace h31 : v 31 = .bool true := h31
        have h40 := hd 40 rfl
        replace h40 : v 40 = .bool true := h40
        clear hd ho
        refine wpOp_step rfl (fun K' hK' => ?_)
        go_simp
        exact hK' _ _ ⟨_, (by simp only [h31, h40]; try rfl), rfl, Below.refl _ _, hw⟩
      | 42, ho =>
        obtain rfl := Option.some.inj ho
        have h41 := hd 41 rfl
        replace h41 : v 41 = .bool true := h41
        clear hd ho
        refine wpOp_step rfl (fun K' hK' => ?_)
        go_simp
        exact hK' _ _ ⟨_, (by simp only [h41]; try rfl), rfl, Below.refl _ _, hw⟩
      | i + 43, ho => cases ho
    case fin =>
      intro v u hw hall
      have h42 : v 42 = .bool true := hall 42 (by decide)
      have HW := Lib.hid hw
      clear hall hw
      go_wp2_with fail
      go_ret
      exact ⟨by rw [← h42]; rfl, HW.out⟩

/-! The step from the walk to the row. -/
theorem own : ownKnob Try.prog.godebug = none := by kernel_rfl
theorem laidOut : laidOutB Try.prog = true := by kernel_rfl

set_option maxRecDepth 100000 in
theorem lifted (os : Os) (started : os.Started) (H : Type) (enc : TypeId × Value → H) :
    ReturnsInHanded {} Try.checked os 12 .any (Rows.crcPartsSpec.pre6 enc Try.prog Try.f12 Rows.crcPartsRow.domain false) (Rows.crcPartsSpec.post enc Try.prog Try.f12 false true false false) := by
  refine returnsInHanded_of_change_sized (C := Try.checked) own started (by kernel_rfl) Try.func12
    (ChangeSpec.witness6 (enc := enc) (C := Try.checked) false ⟨#[], #[.string .empty, .int .i64 0], []⟩ 8 (by kernel_rfl) (by kernel_rfl) (by kernel_rfl) (by kernel_rfl)) ?_
  intro W base args ds gs before hval0 hW _ hsz0 _
  have hsz : (DataW.weightsEach Try.prog (Try.f12.params.toList ++ Rows.crcPartsSpec.plain.varTypes Try.prog) (ds ++ gs)).all (· ≤ reachBytes) = true := hsz0
  have hval : ∀ (j : Nat) t v, Try.f12.params[j]? = some t → args[j]? = some v → Value.okWide Try.prog W .any base t v := hval0
  have hW' := hW
  obtain ⟨p, q, hA0, hV, rfl, _, _⟩ := hW
  have hA : DataW.TrodAll enc Try.prog W 0 (fun _ => true) true Try.f12.params.toList args.toList ds p := hA0
  rw [Try.params12] at hA hval hsz
  obtain ⟨v0, vs0, d0, ds0, p0, q0, hargs, rfl, rfl, h0, r0⟩ := trodAll_cons hA
  obtain ⟨v1, vs1, d1, ds1, p1, q1, rfl, rfl, rfl, h1, r1⟩ := trodAll_cons r0
  obtain ⟨rfl, rfl, rfl⟩ := trodAll_nil r1
  obtain rfl : args = #[v0, v1] := by cases args; simp_all
  obtain ⟨rfl, rfl⟩ := trodVars_none hV
  obtain ⟨a0, rfl, rfl, rfl, m0⟩ := open_string Try.underlying9 (hval 0 9 v0 rfl rfl) h0
  have w0 : a0.size ≤ 140737488351232 := by
    have h : a0.data.toList.length ≤ reachBytes := sized_string hsz (j := 0) (t := 9) rfl rfl
    simpa [reachBytes] using h
  obtain ⟨a1, rfl, rfl, rfl, w1⟩ := open_int Try.underlying3 (hval 1 3 v1 rfl rfl) h1
  clear hA0 hval0
  simp only [List.append_nil] at hW'
  refine (walk a0 a1 w0 w1 W ).mono fun e W' ⟨he, bel⟩ => ?_
  subst he
  exact ⟨_, rfl, _, _, _, [], _, [], hW', trodAll_mk1 (shut_bool Try.underlying4 _), (trodAll_cons_mk (shut_string Try.underlying9 m0) (trodAll_cons_mk (shut_int Try.underlying3 w1) trodAll_mk0)), rfl, bel.frame _, fun h => by cases h⟩

theorem proved : Rows.CrcPartsSaid :=
  OpenClaim.holds_of_wide 12 Try.f12 rfl rfl rfl rfl rfl rfl rfl ⟨rfl, rfl, rfl, rfl, rfl⟩ rfl rfl rfl rfl rfl (by kernel_rfl) Try.func12 (by kernel_rfl)
    (of_decide_eq_true (by kernel_rfl)) (by unfold Func.isWrapper; first | (rw [if_pos (by decide +kernel)]; kernel_rfl) | (rw [if_neg (by decide +kernel)]; exact ⟨rfl, rfl⟩))
    (fun os started H enc _ => lifted os started H enc)

#print axioms proved
end Go.Proofs.Ytfcfhfaccpiffaa.crcParts
