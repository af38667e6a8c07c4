/-
  Some texts of one proof, one behind the other.
-/
import Derived.Lib.SmallJoins
import Derived.Laws.RangeAny
import Derived.Lib.AppendIntMem
import Derived.Deep.RegionLaw
import Derived.Deep.Cut
import Derived.Deep.DeepCutAuto
import Derived.Test.YtdfpnhdamkogcaaGreatDoorPk1
import Derived.Test.YtdfpnhdamkogcaaGreatDoorPk3
import Derived.Test.YtdfpnhdamkogcaaGreatDoorPk4
set_option linter.unusedVariables false
set_option linter.unusedSimpArgs false

/-
  What the package variables give a walk; what the library's calls come to.
-/
namespace Go.Proofs.YtdfpnhdamkogcaaGreatDoor
open Go.RowKit Go.Lib

/-- What the package variables hold. -/
structure LaidY (w : World) : Prop where
  utf : Lib.Utf8Tabs 0 1 w
  pow : Lib.TabIs Tryz.prog w "internal/strconv.uint64pow10" .u64 Lib.pow10Tab
  synx : ∃ te pe, w.cell? ⟨4, 0, none⟩ = some (.iface te pe)
  rng : ∃ te pe, w.cell? ⟨5, 0, none⟩ = some (.iface te pe)
  len : ∃ m, w.cell? ⟨2, 0, none⟩ = some (.int .i64 m)
theorem gPow : Tryz.prog.globalNamed "internal/strconv.uint64pow10" = some 3 := by kernel_rfl
section
variable {w u : World}
theorem cell_keep {g : Nat} {v : Value} (h : w.cell? ⟨g, 0, none⟩ = some v) (hb : Below w.heap.size w u) : u.cell? ⟨g, 0, none⟩ = some v :=
  (hb.cell (p := ⟨g, 0, none⟩) (World.block_lt_of_cell? w _ h)).trans h
theorem LaidY.below (h : LaidY w) (hb : Below w.heap.size w u) : LaidY u := by
  obtain ⟨t1, p1, e1⟩ := h.synx
  obtain ⟨t2, p2, e2⟩ := h.rng
  obtain ⟨m, e3⟩ := h.len
  exact ⟨Utf8Tabs_below h.utf hb, tabBelow_of_tabIs h.pow u hb, ⟨t1, p1, cell_keep e1 hb⟩, ⟨t2, p2, cell_keep e2 hb⟩, ⟨m, cell_keep e3 hb⟩⟩
theorem str_id (s : ByteArray) : Mt.str s.data.toList = s := rfl

theorem sy_format (n : Int) (hn : Mt.inI n) (h : LaidY w) : Calls Tryz.prog 16 #[.int .i64 n, .int .i64 10] w fun e w' => e = .returned (.string (Mt.str (Lib.itoa n))) ∧ Below w.heap.size w w' :=
  (Any.strconv_FormatInt_10 Tryz.syFormat n hn.1 hn.2 w h.pow).mono fun _ _ ⟨h1, k, os, h2⟩ => ⟨h1, by rw [h2]; exact below_grow _ _ (Nat.le_refl _) k os⟩
theorem below_bytes (w : World) (e : TypeId) (s : ByteArray) : Below w.heap.size w (bytesWorld w e s) := by
  refine ⟨rfl, rfl, rfl, ?_, fun j hj => bytesWorld_at_old w e s j hj⟩
  simp [bytesWorld, World.freeze, World.alloc, World.drew, -World.alloc_eq, -World.drew_eq]
theorem sy_parse_ok (s : ByteArray) (hs : s.size ≤ 281474976710656) {v : Int} (hv : Lib.parseIntB 64 s.data.toList = .ok v) : Calls Tryz.prog 50 #[.string s, .int .i64 10, .int .i64 64] w fun e w' => e = .returned (.tuple #[.int .i64 v, .nilIface]) ∧ Below w.heap.size w w' :=
  (Any.strconv_ParseInt_10_at64_ok Tryz.syParse s (by omega) v hv w).mono fun _ _ ⟨h1, h2⟩ => ⟨h1, by
    rcases h2 with rfl | ⟨t, rfl⟩
    · exact Below.refl _ _
    · exact below_bytes _ _ _⟩
def ParseNo (w : World) (e : Ending) (w' : World) : Prop := ∃ x te pe, e = .returned (.tuple #[.int .i64 x, .iface te pe]) ∧ Below w.heap.size w w'
theorem sy_parse_no (s : ByteArray) (hs : s.size ≤ 281474976710656) (h : LaidY w) (hv : ∀ v, Lib.parseIntB 64 s.data.toList ≠ .ok v) : Calls Tryz.prog 50 #[.string s, .int .i64 10, .int .i64 64] w (ParseNo w) := by
  obtain ⟨t1, p1, e1⟩ := h.synx
  obtain ⟨t2, p2, e2⟩ := h.rng
  cases hp : Lib.parseIntB 64 s.data.toList with
  | ok v => exact absurd hp (hv v)
  | range => exact (Any.strconv_ParseInt_10_at64_range Tryz.syParse s hs hp _ w e2 (.inr ⟨t2, p2, rfl⟩)).mono fun _ _ ⟨N, h1, _, _, h2⟩ => ⟨_, _, _, h1, h2⟩
  | _ => exact (Any.strconv_ParseInt_10_at64_syntax Tryz.syParse s hs hp _ w e1 (.inr ⟨t1, p1, rfl⟩)).mono fun _ _ ⟨N, h1, _, _, h2⟩ => ⟨_, _, _, h1, h2⟩
theorem sy_cut (s t : ByteArray) (hs : s.size < 4294967281) (h : LaidY w) : Calls Tryz.prog 81 #[.string s, .string t] w fun e w' => e = .returned (.tuple #[.string (Mt.str (Lib.cut s.data.toList t.data.toList).1), .string (Mt.str (Lib.cut s.data.toList t.data.toList).2.1), .bool (Lib.cut s.data.toList t.data.toList).2.2]) ∧ Below w.heap.size w w' := by
  obtain ⟨m, e3⟩ := h.len
  exact (Any.strings_Cut Tryz.syCut s t m w hs e3).mono fun _ _ ⟨h1, n, h2⟩ => ⟨h1, by rw [h2]; exact below_drewN' (Below.refl _ _) n⟩
theorem sy_cutp (s t : ByteArray) (w : World) : Calls Tryz.prog 79 #[.string s, .string t] w fun e w' => e = .returned (.tuple #[.string (Mt.str (Lib.trimPrefix s.data.toList t.data.toList)), .bool (Lib.hasPrefix s.data.toList t.data.toList)]) ∧ w = w' :=
  (Any.strings_CutPrefix Tryz.syCutP s t w).mono fun _ _ ⟨h1, h2⟩ => ⟨h1, h2.symm⟩
theorem sy_cuts (s t : ByteArray) (hs : s.size ≤ 9223372036854775807) (w : World) : Calls Tryz.prog 65 #[.string s, .string t] w fun e w' => e = .returned (.tuple #[.string (Mt.str (Lib.trimSuffix s.data.toList t.data.toList)), .bool (Lib.hasSuffix s.data.toList t.data.toList)]) ∧ w = w' :=
  (Any.strings_CutSuffix Tryz.syCutS s t w hs).mono fun _ _ ⟨h1, h2⟩ => ⟨h1, h2.symm⟩
theorem sy_hs (s t : ByteArray) (hs : s.size ≤ 9223372036854775807) (w : World) : Calls Tryz.prog 80 #[.string s, .string t] w fun e w' => e = .returned (.bool (Lib.hasSuffix s.data.toList t.data.toList)) ∧ w = w' :=
  (Any.strings_HasSuffix Tryz.syHasS s t w hs).mono fun _ _ ⟨h1, h2⟩ => ⟨h1, h2.symm⟩
theorem sy_compare (s t : ByteArray) (w : World) : Calls Tryz.prog 25 #[.string s, .string t] w fun e w' => e = .returned (.int .i64 (Lib.compareBytes s.data.toList t.data.toList)) ∧ w = w' :=
  (Any.strings_Compare Tryz.syComp s t w).mono fun _ _ ⟨h1, h2⟩ => ⟨h1, h2.symm⟩
end

/-! ### is there such a character? -/
theorem idx_all (p : Nat → Bool) (hp : ∀ x, 128 ≤ x → p x = true) (s : ByteArray) : ∀ (f pos : Nat), s.size - pos ≤ f → (decide (0 ≤ idxFuncFrom p true s f pos) = !((s.data.toList.drop pos).all fun c => decide (c.toNat < 128) && !p c.toNat))
  | 0, pos, h => by
    have : s.data.toList.drop pos = [] := List.drop_eq_nil_of_le (by have e : s.data.toList.length = s.size := rfl; omega)
    rw [this]; rfl
  | f + 1, pos, h => by
    unfold idxFuncFrom
    by_cases hlt : pos < s.size
    · have hl : pos < s.data.toList.length := hlt
      rw [if_pos hlt, List.drop_eq_getElem_cons hl, List.all_cons]
      have hg : s.data.toList[pos] = s[pos] := rfl
      rw [hg]
      by_cases ha : s[pos].toNat < 128
      · rw [decode_ascii s pos hlt ha]
        simp only [ha, decide_true, Bool.true_and]
        by_cases hq : p s[pos].toNat = true
        · rw [if_pos hq, hq]; simp
        · have hq' : p s[pos].toNat = false := by simpa using hq
          rw [if_neg (by rw [hq']; decide), hq', idx_all p hp s f (pos + 1) (by omega)]
          simp
      · have hd := (decode_high s pos hlt (by omega)).1
        rw [if_pos (hp _ hd)]
        simp [ha]
    · have : s.data.toList.drop pos = [] := List.drop_eq_nil_of_le (by have e : s.data.toList.length = s.size := rfl; omega)
      rw [if_neg hlt, this]; rfl
theorem foreign_at (w : World) : PredAt Tryz.prog 41 #[] encR (fun x => decide (127 < x)) w := by
  intro W x _
  show Calls Tryz.prog 41 #[.int .i32 (x : Int)] W _
  have hd : decide ((127 : Int) < (x : Int)) = decide (127 < x) := by rw [decide_eq_decide]; omega
  go_enter Tryz.func41, Tryz.ntmps41
  go_wp2
  go_ret
  exact ⟨rfl, 0, rfl⟩
theorem strange_at (w : World) : PredAt Tryz.prog 66 #[] encR (fun x => decide (x < 48) || decide (57 < x)) w := by
  intro W x _
  show Calls Tryz.prog 66 #[.int .i32 (x : Int)] W _
  obtain ⟨b1, h1⟩ : ∃ b, decide ((x : Int) < 48) = b := ⟨_, rfl⟩
  obtain ⟨b2, h2⟩ : ∃ b, decide ((57 : Int) < (x : Int)) = b := ⟨_, rfl⟩
  have HR : Hid ((decide (x < 48) || decide (57 < x)) = (b1 || b2)) := Lib.hid (by
    rw [← h1, ← h2]
    congr 1 <;> rw [decide_eq_decide] <;> omega)
  go_enter Tryz.func66, Tryz.ntmps66
  cases b1 <;> cases b2 <;> (go_wp2; go_ret; exact ⟨by rw [HR.out]; rfl, 0, rfl⟩)
section
variable {w : World}
theorem enters_foreign : ∀ args w, (callFunc 41 args).run Tryz.prog w = .ok (.enter 41 args) w := enters_of Tryz.func41 (by kernel_rfl) rfl
theorem enters_strange : ∀ args w, (callFunc 66 args).run Tryz.prog w = .ok (.enter 66 args) w := enters_of Tryz.func66 (by kernel_rfl) rfl
theorem sy_foreign (s : ByteArray) (w : World) : Calls Tryz.prog 40 #[.string s, .func (.func 41) #[] #[]] w fun e w' => e = .returned (.bool (!Mt.asciiB s.data.toList)) ∧ Below w.heap.size w w' := by
  refine (Any.strings_ContainsFunc Tryz.syCont 41 #[] enters_foreign _ s w (foreign_at w)).mono ?_
  rintro e w' ⟨rfl, hb⟩
  refine ⟨?_, hb⟩
  unfold idxFunc
  rw [idx_all _ (fun x hx => decide_eq_true (by omega)) s s.size 0 (by omega), List.drop_zero]
  congr 3
  unfold Mt.asciiB
  refine congrArg (fun f => List.all s.data.toList f) (funext fun c => ?_)
  by_cases h : c.toNat < 128
  · simp [h]; omega
  · simp [h]
theorem sy_strange (s : ByteArray) (w : World) : Calls Tryz.prog 40 #[.string s, .func (.func 66) #[] #[]] w fun e w' => e = .returned (.bool (!decide (∀ c ∈ s.data.toList, Mt.isD c))) ∧ Below w.heap.size w w' := by
  refine (Any.strings_ContainsFunc Tryz.syCont 66 #[] enters_strange _ s w (strange_at w)).mono ?_
  rintro e w' ⟨rfl, hb⟩
  refine ⟨?_, hb⟩
  unfold idxFunc
  rw [idx_all _ (fun x hx => by simp; omega) s s.size 0 (by omega), List.drop_zero]
  congr 3
  rw [Bool.eq_iff_iff, List.all_eq_true, decide_eq_true_eq]
  refine forall_congr' fun c => forall_congr' fun _ => ?_
  unfold Mt.isD
  simp
  omega
end
end Go.Proofs.YtdfpnhdamkogcaaGreatDoor

/-
  Days of a month, a few digits' number, whether a text is a number.
-/
namespace Go.Proofs.YtdfpnhdamkogcaaGreatDoor
open Go.RowKit Go.Lib

theorem days_any (y m : Nat) (hy : y ≤ 100000) (w : World) : Calls Tryz.prog 68 #[.int .i64 (y : Int), .int .i64 (m : Int)] w fun e w' => e = .returned (.int .i64 (Mt.lastD y m : Int)) ∧ w = w' := by
  have hy2 : (y : Int) ≤ 100000 := by omega
  have hy0 : (0 : Int) ≤ (y : Int) := by omega
  by_cases h2 : m = 2
  · subst h2
    obtain ⟨b1, h1⟩ : ∃ b, ((y : Int) % 4 == 0) = b := ⟨_, rfl⟩
    obtain ⟨b2, h2⟩ : ∃ b, ((y : Int) % 100 != 0) = b := ⟨_, rfl⟩
    obtain ⟨b3, h3⟩ : ∃ b, ((y : Int) % 400 == 0) = b := ⟨_, rfl⟩
    have hL : (Mt.lastD y 2 : Int) = if (b1 && b2 || b3) = true then 29 else 28 := by
      have e : ((y % 4 = 0 ∧ y % 100 ≠ 0) ∨ y % 400 = 0) ↔ (b1 && b2 || b3) = true := by
        rw [← h1, ← h2, ← h3]
        simp
        omega
      unfold Mt.lastD
      rw [if_pos rfl]
      by_cases hc : (y % 4 = 0 ∧ y % 100 ≠ 0) ∨ y % 400 = 0
      · rw [if_pos hc, if_pos (e.1 hc)]; rfl
      · rw [if_neg hc, if_neg (fun h => hc (e.2 h))]; rfl
    have HL := Lib.hid hL
    clear hL
    go_enter Tryz.func68, Tryz.ntmps68
    cases b1 <;> cases b2 <;> cases b3 <;> (go_wp2; go_ret; exact ⟨by rw [HL.out]; rfl, rfl⟩)
  · have hL : Mt.lastD y m = if m = 4 ∨ m = 6 ∨ m = 9 ∨ m = 11 then 30 else 31 := by unfold Mt.lastD; rw [if_neg h2]
    have HL := Lib.hid hL
    have n2 : ((m : Int) == 2) = false := beq_eq_false_iff_ne.2 (by omega)
    clear hL
    by_cases h4 : m = 4
    · subst h4
      go_enter Tryz.func68, Tryz.ntmps68
      go_wp2; go_ret; exact ⟨by rw [HL.out]; rfl, rfl⟩
    by_cases h6 : m = 6
    · subst h6
      go_enter Tryz.func68, Tryz.ntmps68
      go_wp2; go_ret; exact ⟨by rw [HL.out]; rfl, rfl⟩
    by_cases h9 : m = 9
    · subst h9
      go_enter Tryz.func68, Tryz.ntmps68
      go_wp2; go_ret; exact ⟨by rw [HL.out]; rfl, rfl⟩
    by_cases h11 : m = 11
    · subst h11
      go_enter Tryz.func68, Tryz.ntmps68
      go_wp2; go_ret; exact ⟨by rw [HL.out]; rfl, rfl⟩
    · have n4 : ((m : Int) == 4) = false := beq_eq_false_iff_ne.2 (by omega)
      have n6 : ((m : Int) == 6) = false := beq_eq_false_iff_ne.2 (by omega)
      have n9 : ((m : Int) == 9) = false := beq_eq_false_iff_ne.2 (by omega)
      have n11 : ((m : Int) == 11) = false := beq_eq_false_iff_ne.2 (by omega)
      have HE := Lib.hid (show Mt.lastD y m = 31 by rw [HL.out, if_neg (by omega)])
      clear h2 h4 h6 h9 h11 HL
      go_enter Tryz.func68, Tryz.ntmps68
      go_wp2; go_ret; exact ⟨by rw [HE.out]; rfl, rfl⟩

theorem Mt.ten_take (s : ByteArray) (k : Nat) (h : k < s.size) : Mt.ten 0 (s.data.toList.take (k + 1)) = Mt.ten 0 (s.data.toList.take k) * 10 + (s[k].toNat - 48) := by
  have hl : k < s.data.toList.length := h
  rw [List.take_succ_eq_append_getElem hl, Mt.ten_snoc]
  rfl
theorem belowIter (w : World) (s : ByteArray) (p : Nat) : Below w.heap.size w (w.iter s p) := (Below.refl _ _).alloc (Nat.le_refl _) _
set_option maxRecDepth 100000 in
theorem count_any (s : ByteArray) (hd : ∀ c ∈ s.data.toList, Mt.isD c) (h4 : s.size ≤ 4) (w : World) : Calls Tryz.prog 67 #[.string s] w fun e w' => e = .returned (.int .i64 (Mt.ten 0 s.data.toList : Int)) ∧ Below w.heap.size w w' := by
  have HD := Lib.hid hd
  have HS := Lib.hid h4
  have HE := Lib.hid (show s.data.toList.take s.size = s.data.toList from List.take_of_length_le (Nat.le_refl _))
  clear hd h4
  go_enter Tryz.func67, Tryz.ntmps67
  go_wp2
  go_loopw [3] (fun nv w' => ∃ pos : Nat, w' = w.iter s pos ∧ pos ≤ s.size ∧ nv = .int .i64 (Mt.ten 0 (s.data.toList.take pos) : Int)) (fun _ w' => s.size - w'.iterPos w.heap.size)
  case atStart => exact ⟨0, rfl, Nat.zero_le _, rfl⟩
  case round =>
    obtain ⟨pos, rfl, hle, rfl⟩ := hrel
    by_cases hp : pos < s.size
    · have hnx : ∀ ty, (Instr.next (.pointer (some ⟨w.heap.size, 0, none⟩)) true ty).run Tryz.prog (w.iter s pos) = _ := fun ty => run_next_any w s pos ty hp
      have hi : Mt.isD s[pos] := HD.out _ (List.getElem_mem (l := s.data.toList) (n := pos) hp)
      unfold Mt.isD at hi
      rw [decode_ascii s pos hp (by omega)] at hnx
      have HT := Lib.hid (Mt.ten_take s pos hp)
      obtain ⟨N, hN⟩ : ∃ N, Mt.ten 0 (s.data.toList.take pos) = N := ⟨_, rfl⟩
      have hlt : N < 10000 := by
        have h1 := Mt.ten_lt (s.data.toList.take pos) (fun c hc => HD.out c (List.mem_of_mem_take hc))
        rw [hN, List.length_take] at h1
        have h2 : 10 ^ min pos s.data.toList.length ≤ 10 ^ 4 := Nat.pow_le_pow_right (by decide) (by have := HS.out; omega)
        have h3 : (10 : Nat) ^ 4 = 10000 := by decide
        omega
      rw [hN] at HT ⊢
      obtain ⟨X, hX⟩ : ∃ X, s[pos].toNat = X := ⟨_, rfl⟩
      rw [hX] at hnx HT hi
      have hX1 : (48 : Int) ≤ (X : Int) := by omega
      have hX2 : (X : Int) ≤ 57 := by omega
      have hN1 : (N : Int) < 10000 := by omega
      have hN0 : (0 : Int) ≤ (N : Int) := by omega
      have HV := Lib.hid (show 10 * (N : Int) + ((X : Int) - 48) = (Mt.ten 0 (s.data.toList.take (pos + 1)) : Int) by rw [HT.out]; omega)
      clear hN hX hi hlt HT
      go_wp2
      go_roundw
      case rel => exact ⟨pos + 1, rfl, by omega, by rw [← HV.out]⟩
      case measure => simp; omega
    · have hnx : ∀ ty, (Instr.next (.pointer (some ⟨w.heap.size, 0, none⟩)) true ty).run Tryz.prog (w.iter s pos) = _ := fun ty => run_next_end w s pos ty hp
      obtain rfl : pos = s.size := by omega
      have HB := Lib.hid (belowIter w s s.size)
      rw [HE.out]
      go_wp2
      go_ret
      exact ⟨rfl, HB.out⟩

/-- What number answers. -/
def NumP (w : World) (o : Option Int) (e : Ending) (w' : World) : Prop := ∃ x, e = .returned (.tuple #[.int .i64 x, .bool o.isSome]) ∧ (∀ n, o = some n → x = n) ∧ Below w.heap.size w w'
theorem bytes_ne (a b : List UInt8) (h : a ≠ b) : ((Mt.str a).toList == (Mt.str b).toList) = false := by
  have e : ∀ l : List UInt8, (Mt.str l).toList = l := fun l => by
    have := Mt.str_data l
    rw [ByteArray.toList_eq] at *
    exact this
  rw [e, e]
  simpa using h
theorem number_any (s : ByteArray) (hs : s.size ≤ 281474976710656) (w : World) (hL : LaidY w) : Calls Tryz.prog 26 #[.string s] w (NumP w (Mt.numV s.data.toList)) := by
  by_cases hok : ∃ v, Lib.parseIntB 64 s.data.toList = .ok v
  · obtain ⟨v, hv⟩ := hok
    have hb := Lib.parseIntB_bounds hv
    have hin : Mt.inI v := by unfold Mt.inI; omega
    have HP := Lib.hid (sy_parse_ok (w := w) s hs hv)
    have HF := Lib.hid (fun u (hu : LaidY u) => sy_format v hin hu)
    have HLB := Lib.hid (fun u (hb : Below w.heap.size w u) => hL.below hb)
    have hV : Mt.numV s.data.toList = if Lib.itoa v = s.data.toList then some v else none := by unfold Mt.numV; rw [hv]
    clear hv hb hin
    by_cases he : Lib.itoa v = s.data.toList
    · rw [if_pos he] at hV
      have hse : Mt.str (Lib.itoa v) = s := by rw [he]; rfl
      rw [hV]
      rw [hse] at HF
      clear hV he hse
      go_enter Tryz.func26, Tryz.ntmps26
      go_wp2_with fail
      refine (HP.out).mono ?_
      rintro e w1 ⟨rfl, hb⟩
      have HB1 := Lib.hid hb
      have HF2 := Lib.hid (HF.out w1 (HLB.out w1 hb))
      clear hb HP HF
      go_wp2_with fail
      refine (HF2.out).mono ?_
      rintro e w2 ⟨rfl, hb⟩
      have HB2 := Lib.hid (HB1.out.trans (hb.mono HB1.out.size))
      clear hb
      go_wp2_with fail
      go_ret2
      exact ⟨v, rfl, fun n hn => Option.some.inj hn, HB2.out⟩
    · rw [if_neg he] at hV
      rw [hV]
      have hne := bytes_ne _ _ he
      have hs2 : Mt.str s.data.toList = s := rfl
      rw [hs2] at hne
      clear hV he hs2
      go_enter Tryz.func26, Tryz.ntmps26
      go_wp2_with fail
      refine (HP.out).mono ?_
      rintro e w1 ⟨rfl, hb⟩
      have HB1 := Lib.hid hb
      have HF2 := Lib.hid (HF.out w1 (HLB.out w1 hb))
      clear hb HP HF
      go_wp2_with fail
      refine (HF2.out).mono ?_
      rintro e w2 ⟨rfl, hb⟩
      have HB2 := Lib.hid (HB1.out.trans (hb.mono HB1.out.size))
      clear hb
      go_wp2_with fail
      go_ret2
      exact ⟨v, rfl, (fun n hn => nomatch hn), HB2.out⟩
  · have hno : ∀ v, Lib.parseIntB 64 s.data.toList ≠ .ok v := fun v hv => hok ⟨v, hv⟩
    have HP := Lib.hid (sy_parse_no s hs hL hno)
    have hV : Mt.numV s.data.toList = none := by
      unfold Mt.numV
      split
      · rename_i n hn
        exact absurd hn (hno n)
      · rfl
    rw [hV]
    clear hV hok hno
    go_enter Tryz.func26, Tryz.ntmps26
    go_wp2_with fail
    refine (HP.out).mono ?_
    rintro e w1 ⟨x, te, pe, rfl, hb⟩
    have HB1 := Lib.hid hb
    clear hb HP
    go_wp2_with fail
    go_ret2
    exact ⟨x, rfl, (fun n hn => nomatch hn), HB1.out⟩
end Go.Proofs.YtdfpnhdamkogcaaGreatDoor

/-
  Whether a text is a time.
-/
namespace Go.Proofs.YtdfpnhdamkogcaaGreatDoor
open Go.RowKit Go.Lib

theorem Mt.suffix_z (l : List UInt8) : hasSuffix l [90] = true ↔ ∃ r, l = r ++ [90] := by
  unfold hasSuffix
  rw [List.isSuffixOf_iff_suffix]
  exact ⟨fun ⟨r, h⟩ => ⟨r, h.symm⟩, fun ⟨r, h⟩ => ⟨r, h.symm⟩⟩
theorem Mt.time_suffix {l : List UInt8} (h : hasSuffix l [90] = false) : Mt.timeB l = false := by
  rw [Bool.eq_false_iff]
  intro ht
  unfold Mt.timeB at ht
  simp only [Bool.and_eq_true, decide_eq_true_eq] at ht
  have : hasSuffix l [90] = true := (Mt.suffix_z l).2 ⟨l.take 14, by rw [← ht.1.2, List.take_append_drop]⟩
  rw [h] at this; cases this
theorem Mt.time_length {l : List UInt8} (h : l.length ≠ 15) : Mt.timeB l = false := by
  unfold Mt.timeB
  rw [decide_eq_false h]; rfl
/-- Fourteen bytes ahead of a Z. -/
theorem Mt.time_z {r : List UInt8} (h : r.length = 14) : Mt.timeB (r ++ [90]) = (decide (∀ c ∈ r, Mt.isD c) && Mt.okD r) := by
  have e1 : (r ++ [90]).take 14 = r := by rw [← h, List.take_left']; rfl
  have e2 : (r ++ [90]).drop 14 = [90] := by rw [← h, List.drop_left']; rfl
  unfold Mt.timeB
  rw [e1, e2]
  simp [h]
theorem ext_data (d : ByteArray) (a b : Nat) : (d.extract a b).data.toList = (d.data.toList.drop a).take (b - a) := by
  have h := extract_toList d a b
  rw [ByteArray.toList_eq] at h
  exact h
theorem ext_size (d : ByteArray) (a b : Nat) (h : b ≤ d.size) : (d.extract a b).size = b - a := by
  have e : (d.extract a b).data.toList.length = (d.extract a b).size := rfl
  have e2 : d.data.toList.length = d.size := rfl
  rw [← e, ext_data, List.length_take, List.length_drop]
  omega
theorem count_ext (d : ByteArray) (hd : ∀ c ∈ d.data.toList, Mt.isD c) (a b : Nat) (hb : b ≤ d.size) (h4 : b - a ≤ 4) (u : World) : Calls Tryz.prog 67 #[.string (d.extract a b)] u fun e w' => e = .returned (.int .i64 (Mt.seg d.data.toList a b : Int)) ∧ Below u.heap.size u w' := by
  have h := count_any (d.extract a b) (fun c hc => by
    rw [ext_data] at hc
    exact hd c (List.mem_of_mem_drop (List.mem_of_mem_take hc))) (by rw [ext_size d a b hb]; exact h4) u
  rw [ext_data] at h
  exact h
theorem seg_lt (l : List UInt8) (hd : ∀ c ∈ l, Mt.isD c) (a b : Nat) (h : b - a ≤ 4) : Mt.seg l a b < 10000 := by
  have h1 := Mt.ten_lt ((l.drop a).take (b - a)) (fun c hc => hd c (List.mem_of_mem_drop (List.mem_of_mem_take hc)))
  have h2 : 10 ^ ((l.drop a).take (b - a)).length ≤ 10 ^ 4 := Nat.pow_le_pow_right (by decide) (by rw [List.length_take]; omega)
  have h3 : (10 : Nat) ^ 4 = 10000 := by decide
  unfold Mt.seg
  omega
set_option maxHeartbeats 4000000 in
set_option maxRecDepth 100000 in
/-- Fourteen digits, and a Z. -/
theorem moment_z (d : ByteArray) (hd : ∀ c ∈ d.data.toList, Mt.isD c) (h14 : d.size = 14) (s : ByteArray) (hs : s.size ≤ 9223372036854775807) (hz : s.data.toList = d.data.toList ++ [90]) (w : World) : Calls Tryz.prog 42 #[.string s] w fun e w' => e = .returned (.bool (Mt.okD d.data.toList)) ∧ Below w.heap.size w w' := by
  have hsuf : hasSuffix s.data.toList (⟨#[90]⟩ : ByteArray).data.toList = true := (Mt.suffix_z _).2 ⟨_, hz⟩
  have htr : trimSuffix s.data.toList (⟨#[90]⟩ : ByteArray).data.toList = d.data.toList := by
    unfold trimSuffix
    rw [if_pos hsuf, hz]
    simp
  have HCS := Lib.hid (sy_cuts s ⟨#[90]⟩ hs w)
  rw [hsuf, htr, str_id] at HCS
  have HST := Lib.hid (sy_strange d w)
  rw [show (!decide (∀ c ∈ d.data.toList, Mt.isD c)) = false by rw [decide_eq_true hd]; rfl] at HST
  have HC := Lib.hid (fun a b u (hb : b ≤ d.size) (h4 : b - a ≤ 4) => count_ext d hd a b hb h4 u)
  have HDY := Lib.hid (fun y m u (hy : y ≤ 100000) => days_any y m hy u)
  have HLT := Lib.hid (fun a b h => seg_lt d.data.toList hd a b h)
  have HOK : Hid (Mt.okD d.data.toList = Mt.okT (Mt.seg d.data.toList 0 4) (Mt.seg d.data.toList 4 6) (Mt.seg d.data.toList 6 8) (Mt.seg d.data.toList 8 10) (Mt.seg d.data.toList 10 12) (Mt.seg d.data.toList 12 14)) := Lib.hid rfl
  have k1 : ¬ d.size < 4 := by omega
  have HZ := Lib.hid h14
  generalize Mt.okD d.data.toList = ok at *
  generalize d.data.toList = l at *
  have hsz : (d.size : Int) = 14 := by omega
  have hsz2 : d.size = 14 := h14
  clear hsuf htr hd hz hs h14 k1
  go_enter Tryz.func42, Tryz.ntmps42
  go_wp2_with fail
  refine (HCS.out).mono ?_
  rintro e w1 ⟨rfl, rfl⟩
  clear HCS
  go_wp2_with fail
  refine (HST.out).mono ?_
  rintro e w2 ⟨rfl, hb⟩
  have HB2 := Lib.hid hb
  clear hb HST
  go_upto_region 4 with fail
  go_cut [5, 6, 7] from 27 (fun t5 t6 t7 wx => t5 = .int .i64 (Mt.seg l 0 4 : Int) ∧ t6 = .int .i64 (Mt.seg l 4 6 : Int) ∧ t7 = .int .i64 (Mt.seg l 6 8 : Int) ∧ Hid (Below w.heap.size w wx))
  case first =>
    replace HB2 := Lib.hid (HB2.out.drew)
    go_region_law (first | (go_simp; go_at_call 67; refine (HC.out _ _ _ (by omega) (by omega)).mono ?_; rintro e wx ⟨rfl, hb⟩; have HB2 := Lib.hid (HB2.out.trans (hb.mono HB2.out.size)); clear hb))
    all_goals
      go_wp2_with fail
      go_meet
      case rel => exact ⟨rfl, rfl, rfl, HB2⟩
  case rest =>
    obtain ⟨rfl, rfl, rfl, HB3⟩ := hcut
    clear HB2
    go_upto_region 5 with fail
    go_cut [8, 9, 10] from 36 (fun t5 t6 t7 wx => t5 = .int .i64 (Mt.seg l 8 10 : Int) ∧ t6 = .int .i64 (Mt.seg l 10 12 : Int) ∧ t7 = .int .i64 (Mt.seg l 12 14 : Int) ∧ Hid (Below w.heap.size w wx))
    case first =>
      replace HB3 := Lib.hid (HB3.out.drew)
      go_region_law (first | (go_simp; go_at_call 67; refine (HC.out _ _ _ (by omega) (by omega)).mono ?_; rintro e wx ⟨rfl, hb⟩; have HB3 := Lib.hid (HB3.out.trans (hb.mono HB3.out.size)); clear hb))
      all_goals
        go_wp2_with fail
        go_meet
        case rel => exact ⟨rfl, rfl, rfl, HB3⟩
    case rest =>
      obtain ⟨rfl, rfl, rfl, HB4⟩ := hcut
      clear HB3 HC
      have b1 := HLT.out 0 4 (by omega)
      have HDD := Lib.hid (HDY.out (Mt.seg l 0 4) (Mt.seg l 4 6) wc (by omega))
      generalize Mt.seg l 0 4 = y at *
      generalize Mt.seg l 4 6 = m at *
      generalize Mt.seg l 6 8 = dd at *
      generalize Mt.seg l 8 10 = h at *
      generalize Mt.seg l 10 12 = i at *
      generalize Mt.seg l 12 14 = sc at *
      clear HLT HDY b1
      obtain ⟨LD, hLD⟩ : ∃ n, Mt.lastD y m = n := ⟨_, rfl⟩
      rw [hLD] at HDD
      have HOK2 : Hid (ok = (decide ((1 : Int) ≤ (m : Int)) && (decide ((m : Int) ≤ 12) && (decide ((1 : Int) ≤ (dd : Int)) && (decide ((dd : Int) ≤ (LD : Int)) && (decide ((h : Int) ≤ 23) && (decide ((i : Int) ≤ 59) && decide ((sc : Int) ≤ 59)))))))) := Lib.hid (by
        rw [HOK.out]
        unfold Mt.okT
        rw [hLD, Bool.eq_iff_iff]
        simp only [Bool.and_eq_true, decide_eq_true_eq]
        omega)
      clear hLD HOK
      obtain ⟨c1, h1⟩ : ∃ b, decide ((1 : Int) ≤ (m : Int)) = b := ⟨_, rfl⟩
      obtain ⟨c2, h2⟩ : ∃ b, decide ((m : Int) ≤ 12) = b := ⟨_, rfl⟩
      obtain ⟨c3, h3⟩ : ∃ b, decide ((1 : Int) ≤ (dd : Int)) = b := ⟨_, rfl⟩
      obtain ⟨c4, h4⟩ : ∃ b, decide ((dd : Int) ≤ (LD : Int)) = b := ⟨_, rfl⟩
      obtain ⟨c5, h5⟩ : ∃ b, decide ((h : Int) ≤ 23) = b := ⟨_, rfl⟩
      obtain ⟨c6, h6⟩ : ∃ b, decide ((i : Int) ≤ 59) = b := ⟨_, rfl⟩
      obtain ⟨c7, h7⟩ : ∃ b, decide ((sc : Int) ≤ 59) = b := ⟨_, rfl⟩
      have h4n : decide (dd ≤ LD) = c4 := by rw [← h4, decide_eq_decide]; omega
      rw [h1, h2, h3, h4, h5, h6, h7] at HOK2
      cases c1 with
      | false =>
        go_wp2_with fail
        go_ret
        exact ⟨by rw [HOK2.out]; rfl, HB4.out⟩
      | true =>
        cases c2 with
        | false =>
          go_wp2_with fail
          go_ret
          exact ⟨by rw [HOK2.out]; rfl, HB4.out⟩
        | true =>
          cases c3 with
          | false =>
            go_wp2_with fail
            go_ret
            exact ⟨by rw [HOK2.out]; rfl, HB4.out⟩
          | true =>
            go_wp2_with fail
            refine (HDD.out).mono ?_
            rintro e w5 ⟨rfl, rfl⟩
            cases c4 <;> cases c5 <;> cases c6 <;> cases c7 <;> (go_wp2_with fail; go_ret; exact ⟨by rw [HOK2.out]; rfl, HB4.out⟩)
/-- Whether a text is a time. -/
theorem moment_any (s : ByteArray) (hs : s.size ≤ 9223372036854775807) (w : World) : Calls Tryz.prog 42 #[.string s] w fun e w' => e = .returned (.bool (Mt.timeB s.data.toList)) ∧ Below w.heap.size w w' := by
  have HCS := Lib.hid (sy_cuts s ⟨#[90]⟩ hs w)
  have hl : s.data.toList.length = s.size := rfl
  by_cases hsuf : hasSuffix s.data.toList [90] = true
  · obtain ⟨r, hr⟩ := (Mt.suffix_z _).1 hsuf
    have hrl : s.size = r.length + 1 := by rw [← hl, hr]; simp
    have htr : trimSuffix s.data.toList [90] = r := by
      unfold trimSuffix
      rw [if_pos hsuf, hr]
      simp
    by_cases h14 : r.length = 14
    · by_cases hd : ∀ c ∈ r, Mt.isD c
      · have := moment_z (Mt.str r) (by rw [Mt.str_data]; exact hd) (by rw [Mt.str_size]; exact h14) s hs (by rw [Mt.str_data]; exact hr) w
        rw [Mt.str_data] at this
        rw [hr, Mt.time_z h14, decide_eq_true hd, Bool.true_and]
        exact this
      · rw [hr, Mt.time_z h14, decide_eq_false hd, Bool.false_and]
        have HST := Lib.hid (sy_strange (Mt.str r) w)
        rw [Mt.str_data, decide_eq_false hd] at HST
        rw [show (⟨#[90]⟩ : ByteArray).data.toList = [90] from rfl, hsuf, htr] at HCS
        have hz : ((Mt.str r).size : Int) = 14 := by rw [Mt.str_size]; omega
        have hz2 : (Mt.str r).size = 14 := by rw [Mt.str_size]; omega
        generalize Mt.str r = d at *
        clear hr hrl htr h14 hd hsuf hl hs
        go_enter Tryz.func42, Tryz.ntmps42
        go_wp2_with fail
        refine (HCS.out).mono ?_
        rintro e w1 ⟨rfl, rfl⟩
        clear HCS
        go_wp2_with fail
        refine (HST.out).mono ?_
        rintro e w2 ⟨rfl, hb⟩
        have HB2 := Lib.hid hb
        clear hb HST
        go_wp2_with fail
        go_ret
        exact ⟨rfl, HB2.out⟩
    · rw [Mt.time_length (l := s.data.toList) (by rw [hr]; simp; omega)]
      rw [show (⟨#[90]⟩ : ByteArray).data.toList = [90] from rfl, hsuf, htr] at HCS
      have hz : ((Mt.str r).size : Int) ≠ 14 := by rw [Mt.str_size]; omega
      have hz2 : (((Mt.str r).size : Int) != 14) = true := by simpa using hz
      generalize Mt.str r = d at *
      clear hr hrl htr h14 hsuf hl hs hz
      go_enter Tryz.func42, Tryz.ntmps42
      go_wp2_with fail
      refine (HCS.out).mono ?_
      rintro e w1 ⟨rfl, rfl⟩
      clear HCS
      go_wp2_with fail
      go_ret
      exact ⟨rfl, Below.refl _ _⟩
  · have hsuf : hasSuffix s.data.toList [90] = false := by simpa using hsuf
    rw [Mt.time_suffix hsuf]
    rw [show (⟨#[90]⟩ : ByteArray).data.toList = [90] from rfl, hsuf] at HCS
    generalize Mt.str (trimSuffix s.data.toList [90]) = d at *
    clear hsuf hl hs
    go_enter Tryz.func42, Tryz.ntmps42
    go_wp2_with fail
    refine (HCS.out).mono ?_
    rintro e w1 ⟨rfl, rfl⟩
    clear HCS
    go_wp2_with fail
    go_ret
    exact ⟨rfl, Below.refl _ _⟩
end Go.Proofs.YtdfpnhdamkogcaaGreatDoor
