/-
  Days of a month, a few digits' number, whether a text is a number.
-/
import Derived.Test.YtfogcgegllhmmaaGreatDoorSyA
namespace Go.Proofs.YtfogcgegllhmmaaGreatDoor
open Go.RowKit Go.Lib

theorem days_any (y m : Nat) (hy : y ≤ 100000) (w : World) : Calls Tryz.prog 68 #[.int .i64 (y : Int), .int .i64 (m : Int)] w fun e w' => e = .returned (.int .i64 (Mt.lastD y m : Int)) ∧ w = w' := by
  have hy2 : (y : Int) ≤ 100000 := by omega
  have hy0 : (0 : Int) ≤ (y : Int) := by omega
  by_cases h2 : m = 2
  · subst h2
    obtain ⟨b1, h1⟩ : ∃ b, ((y : Int) % 4 == 0) = b := ⟨_, rfl⟩
    obtain ⟨b2, h2⟩ : ∃ b, ((y : Int) % 100 != 0) = b := ⟨_, rfl⟩
    obtain ⟨b3, h3⟩ : ∃ b, ((y : Int) % 400 == 0) = b := ⟨_, rfl⟩
    have hL : (Mt.lastD y 2 : Int) = if (b1 && b2 || b3) = true then 29 else 28 := by
      have e : ((y % 4 = 0 ∧ y % 100 ≠ 0) ∨ y % 400 = 0) ↔ (b1 && b2 || b3) = true := by
        rw [← h1, ← h2, ← h3]
        simp
        omega
      unfold Mt.lastD
      rw [if_pos rfl]
      by_cases hc : (y % 4 = 0 ∧ y % 100 ≠ 0) ∨ y % 400 = 0
      · rw [if_pos hc, if_pos (e.1 hc)]; rfl
      · rw [if_neg hc, if_neg (fun h => hc (e.2 h))]; rfl
    have HL := Lib.hid hL
    clear hL
    go_enter Tryz.func68, Tryz.ntmps68
    cases b1 <;> cases b2 <;> cases b3 <;> (go_wp2; go_ret; exact ⟨by rw [HL.out]; rfl, rfl⟩)
  · have hL : Mt.lastD y m = if m = 4 ∨ m = 6 ∨ m = 9 ∨ m = 11 then 30 else 31 := by unfold Mt.lastD; rw [if_neg h2]
    have HL := Lib.hid hL
    have n2 : ((m : Int) == 2) = false := beq_eq_false_iff_ne.2 (by omega)
    clear hL
    by_cases h4 : m = 4
    · subst h4
      go_enter Tryz.func68, Tryz.ntmps68
      go_wp2; go_ret; exact ⟨by rw [HL.out]; rfl, rfl⟩
    by_cases h6 : m = 6
    · subst h6
      go_enter Tryz.func68, Tryz.ntmps68
      go_wp2; go_ret; exact ⟨by rw [HL.out]; rfl, rfl⟩
    by_cases h9 : m = 9
    · subst h9
      go_enter Tryz.func68, Tryz.ntmps68
      go_wp2; go_ret; exact ⟨by rw [HL.out]; rfl, rfl⟩
    by_cases h11 : m = 11
    · subst h11
      go_enter Tryz.func68, Tryz.ntmps68
      go_wp2; go_ret; exact ⟨by rw [HL.out]; rfl, rfl⟩
    · have n4 : ((m : Int) == 4) = false := beq_eq_false_iff_ne.2 (by omega)
      have n6 : ((m : Int) == 6) = false := beq_eq_false_iff_ne.2 (by omega)
      have n9 : ((m : Int) == 9) = false := beq_eq_false_iff_ne.2 (by omega)
      have n11 : ((m : Int) == 11) = false := beq_eq_false_iff_ne.2 (by omega)
      have HE := Lib.hid (show Mt.lastD y m = 31 by rw [HL.out, if_neg (by omega)])
      clear h2 h4 h6 h9 h11 HL
      go_enter Tryz.func68, Tryz.ntmps68
      go_wp2; go_ret; exact ⟨by rw [HE.out]; rfl, rfl⟩

theorem Mt.ten_take (s : ByteArray) (k : Nat) (h : k < s.size) : Mt.ten 0 (s.data.toList.take (k + 1)) = Mt.ten 0 (s.data.toList.take k) * 10 + (s[k].toNat - 48) := by
  have hl : k < s.data.toList.length := h
  rw [List.take_succ_eq_append_getElem hl, Mt.ten_snoc]
  rfl
theorem belowIter (w : World) (s : ByteArray) (p : Nat) : Below w.heap.size w (w.iter s p) := (Below.refl _ _).alloc (Nat.le_refl _) _
set_option maxRecDepth 100000 in
theorem count_any (s : ByteArray) (hd : ∀ c ∈ s.data.toList, Mt.isD c) (h4 : s.size ≤ 4) (w : World) : Calls Tryz.prog 67 #[.string s] w fun e w' => e = .returned (.int .i64 (Mt.ten 0 s.data.toList : Int)) ∧ Below w.heap.size w w' := by
  have HD := Lib.hid hd
  have HS := Lib.hid h4
  have HE := Lib.hid (show s.data.toList.take s.size = s.data.toList from List.take_of_length_le (Nat.le_refl _))
  clear hd h4
  go_enter Tryz.func67, Tryz.ntmps67
  go_wp2
  go_loopw [3] (fun nv w' => ∃ pos : Nat, w' = w.iter s pos ∧ pos ≤ s.size ∧ nv = .int .i64 (Mt.ten 0 (s.data.toList.take pos) : Int)) (fun _ w' => s.size - w'.iterPos w.heap.size)
  case atStart => exact ⟨0, rfl, Nat.zero_le _, rfl⟩
  case round =>
    obtain ⟨pos, rfl, hle, rfl⟩ := hrel
    by_cases hp : pos < s.size
    · have hnx : ∀ ty, (Instr.next (.pointer (some ⟨w.heap.size, 0, none⟩)) true ty).run Tryz.prog (w.iter s pos) = _ := fun ty => run_next_any w s pos ty hp
      have hi : Mt.isD s[pos] := HD.out _ (List.getElem_mem (l := s.data.toList) (n := pos) hp)
      unfold Mt.isD at hi
      rw [decode_ascii s pos hp (by omega)] at hnx
      have HT := Lib.hid (Mt.ten_take s pos hp)
      obtain ⟨N, hN⟩ : ∃ N, Mt.ten 0 (s.data.toList.take pos) = N := ⟨_, rfl⟩
      have hlt : N < 10000 := by
        have h1 := Mt.ten_lt (s.data.toList.take pos) (fun c hc => HD.out c (List.mem_of_mem_take hc))
        rw [hN, List.length_take] at h1
        have h2 : 10 ^ min pos s.data.toList.length ≤ 10 ^ 4 := Nat.pow_le_pow_right (by decide) (by have := HS.out; omega)
        have h3 : (10 : Nat) ^ 4 = 10000 := by decide
        omega
      rw [hN] at HT ⊢
      obtain ⟨X, hX⟩ : ∃ X, s[pos].toNat = X := ⟨_, rfl⟩
      rw [hX] at hnx HT hi
      have hX1 : (48 : Int) ≤ (X : Int) := by omega
      have hX2 : (X : Int) ≤ 57 := by omega
      have hN1 : (N : Int) < 10000 := by omega
      have hN0 : (0 : Int) ≤ (N : Int) := by omega
      have HV := Lib.hid (show 10 * (N : Int) + ((X : Int) - 48) = (Mt.ten 0 (s.data.toList.take (pos + 1)) : Int) by rw [HT.out]; omega)
      clear hN hX hi hlt HT
      go_wp2
      go_roundw
      case rel => exact ⟨pos + 1, rfl, by omega, by rw [← HV.out]⟩
      case measure => simp; omega
    · have hnx : ∀ ty, (Instr.next (.pointer (some ⟨w.heap.size, 0, none⟩)) true ty).run Tryz.prog (w.iter s pos) = _ := fun ty => run_next_end w s pos ty hp
      obtain rfl : pos = s.size := by omega
      have HB := Lib.hid (belowIter w s s.size)
      rw [HE.out]
      go_wp2
      go_ret
      exact ⟨rfl, HB.out⟩

/-- What number answers. -/
def NumP (w : World) (o : Option Int) (e : Ending) (w' : World) : Prop := ∃ x, e = .returned (.tuple #[.int .i64 x, .bool o.isSome]) ∧ (∀ n, o = some n → x = n) ∧ Below w.heap.size w w'
theorem bytes_ne (a b : List UInt8) (h : a ≠ b) : ((Mt.str a).toList == (Mt.str b).toList) = false := by
  have e : ∀ l : List UInt8, (Mt.str l).toList = l := fun l => by
    have := Mt.str_data l
    rw [ByteArray.toList_eq] at *
    exact this
  rw [e, e]
  simpa using h
theorem number_any (s : ByteArray) (hs : s.size ≤ 281474976710656) (w : World) (hL : LaidY w) : Calls Tryz.prog 26 #[.string s] w (NumP w (Mt.numV s.data.toList)) := by
  by_cases hok : ∃ v, Lib.parseIntB 64 s.data.toList = .ok v
  · obtain ⟨v, hv⟩ := hok
    have hb := Lib.parseIntB_bounds hv
    have hin : Mt.inI v := by unfold Mt.inI; omega
    have HP := Lib.hid (sy_parse_ok (w := w) s hs hv)
    have HF := Lib.hid (fun u (hu : LaidY u) => sy_format v hin hu)
    have HLB := Lib.hid (fun u (hb : Below w.heap.size w u) => hL.below hb)
    have hV : Mt.numV s.data.toList = if Lib.itoa v = s.data.toList then some v else none := by unfold Mt.numV; rw [hv]
    clear hv hb hin
    by_cases he : Lib.itoa v = s.data.toList
    · rw [if_pos he] at hV
      have hse : Mt.str (Lib.itoa v) = s := by rw [he]; rfl
      rw [hV]
      rw [hse] at HF
      clear hV he hse
      go_enter Tryz.func26, Tryz.ntmps26
      go_wp2_with fail
      refine (HP.out).mono ?_
      rintro e w1 ⟨rfl, hb⟩
      have HB1 := Lib.hid hb
      have HF2 := Lib.hid (HF.out w1 (HLB.out w1 hb))
      clear hb HP HF
      go_wp2_with fail
      refine (HF2.out).mono ?_
      rintro e w2 ⟨rfl, hb⟩
      have HB2 := Lib.hid (HB1.out.trans (hb.mono HB1.out.size))
      clear hb
      go_wp2_with fail
      go_ret2
      exact ⟨v, rfl, fun n hn => Option.some.inj hn, HB2.out⟩
    · rw [if_neg he] at hV
      rw [hV]
      have hne := bytes_ne _ _ he
      have hs2 : Mt.str s.data.toList = s := rfl
      rw [hs2] at hne
      clear hV he hs2
      go_enter Tryz.func26, Tryz.ntmps26
      go_wp2_with fail
      refine (HP.out).mono ?_
      rintro e w1 ⟨rfl, hb⟩
      have HB1 := Lib.hid hb
      have HF2 := Lib.hid (HF.out w1 (HLB.out w1 hb))
      clear hb HP HF
      go_wp2_with fail
      refine (HF2.out).mono ?_
      rintro e w2 ⟨rfl, hb⟩
      have HB2 := Lib.hid (HB1.out.trans (hb.mono HB1.out.size))
      clear hb
      go_wp2_with fail
      go_ret2
      exact ⟨v, rfl, (fun n hn => nomatch hn), HB2.out⟩
  · have hno : ∀ v, Lib.parseIntB 64 s.data.toList ≠ .ok v := fun v hv => hok ⟨v, hv⟩
    have HP := Lib.hid (sy_parse_no s hs hL hno)
    have hV : Mt.numV s.data.toList = none := by
      unfold Mt.numV
      split
      · rename_i n hn
        exact absurd hn (hno n)
      · rfl
    rw [hV]
    clear hV hok hno
    go_enter Tryz.func26, Tryz.ntmps26
    go_wp2_with fail
    refine (HP.out).mono ?_
    rintro e w1 ⟨x, te, pe, rfl, hb⟩
    have HB1 := Lib.hid hb
    clear hb HP
    go_wp2_with fail
    go_ret2
    exact ⟨x, rfl, (fun n hn => nomatch hn), HB1.out⟩
end Go.Proofs.YtfogcgegllhmmaaGreatDoor
