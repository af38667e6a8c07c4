/-
  What the package variables give a walk; what the library's calls come to.
-/
import Derived.Test.YtfogcgegllhmmaaGreatDoorShelfY
import Derived.Test.YtfogcgegllhmmaaGreatDoorSyMath
import Derived.Test.YtfogcgegllhmmaaGreatDoorGen
import Derived.Lib.SmallJoins
import Derived.Laws.RangeAny
import Derived.Lib.AppendIntMem
namespace Go.Proofs.YtfogcgegllhmmaaGreatDoor
open Go.RowKit Go.Lib

/-- What the package variables hold. -/
structure LaidY (w : World) : Prop where
  utf : Lib.Utf8Tabs 0 1 w
  pow : Lib.TabIs Tryz.prog w "internal/strconv.uint64pow10" .u64 Lib.pow10Tab
  synx : ∃ te pe, w.cell? ⟨4, 0, none⟩ = some (.iface te pe)
  rng : ∃ te pe, w.cell? ⟨5, 0, none⟩ = some (.iface te pe)
  len : ∃ m, w.cell? ⟨2, 0, none⟩ = some (.int .i64 m)
theorem gPow : Tryz.prog.globalNamed "internal/strconv.uint64pow10" = some 3 := by kernel_rfl
section
variable {w u : World}
theorem cell_keep {g : Nat} {v : Value} (h : w.cell? ⟨g, 0, none⟩ = some v) (hb : Below w.heap.size w u) : u.cell? ⟨g, 0, none⟩ = some v :=
  (hb.cell (p := ⟨g, 0, none⟩) (World.block_lt_of_cell? w _ h)).trans h
theorem LaidY.below (h : LaidY w) (hb : Below w.heap.size w u) : LaidY u := by
  obtain ⟨t1, p1, e1⟩ := h.synx
  obtain ⟨t2, p2, e2⟩ := h.rng
  obtain ⟨m, e3⟩ := h.len
  exact ⟨Utf8Tabs_below h.utf hb, tabBelow_of_tabIs h.pow u hb, ⟨t1, p1, cell_keep e1 hb⟩, ⟨t2, p2, cell_keep e2 hb⟩, ⟨m, cell_keep e3 hb⟩⟩
theorem str_id (s : ByteArray) : Mt.str s.data.toList = s := rfl

theorem sy_format (n : Int) (hn : Mt.inI n) (h : LaidY w) : Calls Tryz.prog 16 #[.int .i64 n, .int .i64 10] w fun e w' => e = .returned (.string (Mt.str (Lib.itoa n))) ∧ Below w.heap.size w w' :=
  (Any.strconv_FormatInt_10 Tryz.syFormat n hn.1 hn.2 w h.pow).mono fun _ _ ⟨h1, k, os, h2⟩ => ⟨h1, by rw [h2]; exact below_grow _ _ (Nat.le_refl _) k os⟩
theorem below_bytes (w : World) (e : TypeId) (s : ByteArray) : Below w.heap.size w (bytesWorld w e s) := by
  refine ⟨rfl, rfl, rfl, ?_, fun j hj => bytesWorld_at_old w e s j hj⟩
  simp [bytesWorld, World.freeze, World.alloc, World.drew, -World.alloc_eq, -World.drew_eq]
theorem sy_parse_ok (s : ByteArray) (hs : s.size ≤ 281474976710656) {v : Int} (hv : Lib.parseIntB 64 s.data.toList = .ok v) : Calls Tryz.prog 50 #[.string s, .int .i64 10, .int .i64 64] w fun e w' => e = .returned (.tuple #[.int .i64 v, .nilIface]) ∧ Below w.heap.size w w' :=
  (Any.strconv_ParseInt_10_at64_ok Tryz.syParse s (by omega) v hv w).mono fun _ _ ⟨h1, h2⟩ => ⟨h1, by
    rcases h2 with rfl | ⟨t, rfl⟩
    · exact Below.refl _ _
    · exact below_bytes _ _ _⟩
def ParseNo (w : World) (e : Ending) (w' : World) : Prop := ∃ x te pe, e = .returned (.tuple #[.int .i64 x, .iface te pe]) ∧ Below w.heap.size w w'
theorem sy_parse_no (s : ByteArray) (hs : s.size ≤ 281474976710656) (h : LaidY w) (hv : ∀ v, Lib.parseIntB 64 s.data.toList ≠ .ok v) : Calls Tryz.prog 50 #[.string s, .int .i64 10, .int .i64 64] w (ParseNo w) := by
  obtain ⟨t1, p1, e1⟩ := h.synx
  obtain ⟨t2, p2, e2⟩ := h.rng
  cases hp : Lib.parseIntB 64 s.data.toList with
  | ok v => exact absurd hp (hv v)
  | range => exact (Any.strconv_ParseInt_10_at64_range Tryz.syParse s hs hp _ w e2 (.inr ⟨t2, p2, rfl⟩)).mono fun _ _ ⟨N, h1, _, _, h2⟩ => ⟨_, _, _, h1, h2⟩
  | _ => exact (Any.strconv_ParseInt_10_at64_syntax Tryz.syParse s hs hp _ w e1 (.inr ⟨t1, p1, rfl⟩)).mono fun _ _ ⟨N, h1, _, _, h2⟩ => ⟨_, _, _, h1, h2⟩
theorem sy_cut (s t : ByteArray) (hs : s.size < 4294967281) (h : LaidY w) : Calls Tryz.prog 81 #[.string s, .string t] w fun e w' => e = .returned (.tuple #[.string (Mt.str (Lib.cut s.data.toList t.data.toList).1), .string (Mt.str (Lib.cut s.data.toList t.data.toList).2.1), .bool (Lib.cut s.data.toList t.data.toList).2.2]) ∧ Below w.heap.size w w' := by
  obtain ⟨m, e3⟩ := h.len
  exact (Any.strings_Cut Tryz.syCut s t m w hs e3).mono fun _ _ ⟨h1, n, h2⟩ => ⟨h1, by rw [h2]; exact below_drewN' (Below.refl _ _) n⟩
theorem sy_cutp (s t : ByteArray) (w : World) : Calls Tryz.prog 79 #[.string s, .string t] w fun e w' => e = .returned (.tuple #[.string (Mt.str (Lib.trimPrefix s.data.toList t.data.toList)), .bool (Lib.hasPrefix s.data.toList t.data.toList)]) ∧ w = w' :=
  (Any.strings_CutPrefix Tryz.syCutP s t w).mono fun _ _ ⟨h1, h2⟩ => ⟨h1, h2.symm⟩
theorem sy_cuts (s t : ByteArray) (hs : s.size ≤ 9223372036854775807) (w : World) : Calls Tryz.prog 65 #[.string s, .string t] w fun e w' => e = .returned (.tuple #[.string (Mt.str (Lib.trimSuffix s.data.toList t.data.toList)), .bool (Lib.hasSuffix s.data.toList t.data.toList)]) ∧ w = w' :=
  (Any.strings_CutSuffix Tryz.syCutS s t w hs).mono fun _ _ ⟨h1, h2⟩ => ⟨h1, h2.symm⟩
theorem sy_hs (s t : ByteArray) (hs : s.size ≤ 9223372036854775807) (w : World) : Calls Tryz.prog 80 #[.string s, .string t] w fun e w' => e = .returned (.bool (Lib.hasSuffix s.data.toList t.data.toList)) ∧ w = w' :=
  (Any.strings_HasSuffix Tryz.syHasS s t w hs).mono fun _ _ ⟨h1, h2⟩ => ⟨h1, h2.symm⟩
theorem sy_compare (s t : ByteArray) (w : World) : Calls Tryz.prog 25 #[.string s, .string t] w fun e w' => e = .returned (.int .i64 (Lib.compareBytes s.data.toList t.data.toList)) ∧ w = w' :=
  (Any.strings_Compare Tryz.syComp s t w).mono fun _ _ ⟨h1, h2⟩ => ⟨h1, h2.symm⟩
end

/-! ### is there such a character? -/
theorem idx_all (p : Nat → Bool) (hp : ∀ x, 128 ≤ x → p x = true) (s : ByteArray) : ∀ (f pos : Nat), s.size - pos ≤ f → (decide (0 ≤ idxFuncFrom p true s f pos) = !((s.data.toList.drop pos).all fun c => decide (c.toNat < 128) && !p c.toNat))
  | 0, pos, h => by
    have : s.data.toList.drop pos = [] := List.drop_eq_nil_of_le (by have e : s.data.toList.length = s.size := rfl; omega)
    rw [this]; rfl
  | f + 1, pos, h => by
    unfold idxFuncFrom
    by_cases hlt : pos < s.size
    · have hl : pos < s.data.toList.length := hlt
      rw [if_pos hlt, List.drop_eq_getElem_cons hl, List.all_cons]
      have hg : s.data.toList[pos] = s[pos] := rfl
      rw [hg]
      by_cases ha : s[pos].toNat < 128
      · rw [decode_ascii s pos hlt ha]
        simp only [ha, decide_true, Bool.true_and]
        by_cases hq : p s[pos].toNat = true
        · rw [if_pos hq, hq]; simp
        · have hq' : p s[pos].toNat = false := by simpa using hq
          rw [if_neg (by rw [hq']; decide), hq', idx_all p hp s f (pos + 1) (by omega)]
          simp
      · have hd := (decode_high s pos hlt (by omega)).1
        rw [if_pos (hp _ hd)]
        simp [ha]
    · have : s.data.toList.drop pos = [] := List.drop_eq_nil_of_le (by have e : s.data.toList.length = s.size := rfl; omega)
      rw [if_neg hlt, this]; rfl
theorem foreign_at (w : World) : PredAt Tryz.prog 41 #[] encR (fun x => decide (127 < x)) w := by
  intro W x _
  show Calls Tryz.prog 41 #[.int .i32 (x : Int)] W _
  have hd : decide ((127 : Int) < (x : Int)) = decide (127 < x) := by rw [decide_eq_decide]; omega
  go_enter Tryz.func41, Tryz.ntmps41
  go_wp2
  go_ret
  exact ⟨rfl, 0, rfl⟩
theorem strange_at (w : World) : PredAt Tryz.prog 66 #[] encR (fun x => decide (x < 48) || decide (57 < x)) w := by
  intro W x _
  show Calls Tryz.prog 66 #[.int .i32 (x : Int)] W _
  obtain ⟨b1, h1⟩ : ∃ b, decide ((x : Int) < 48) = b := ⟨_, rfl⟩
  obtain ⟨b2, h2⟩ : ∃ b, decide ((57 : Int) < (x : Int)) = b := ⟨_, rfl⟩
  have HR : Hid ((decide (x < 48) || decide (57 < x)) = (b1 || b2)) := Lib.hid (by
    rw [← h1, ← h2]
    congr 1 <;> rw [decide_eq_decide] <;> omega)
  go_enter Tryz.func66, Tryz.ntmps66
  cases b1 <;> cases b2 <;> (go_wp2; go_ret; exact ⟨by rw [HR.out]; rfl, 0, rfl⟩)
section
variable {w : World}
theorem enters_foreign : ∀ args w, (callFunc 41 args).run Tryz.prog w = .ok (.enter 41 args) w := enters_of Tryz.func41 (by kernel_rfl) rfl
theorem enters_strange : ∀ args w, (callFunc 66 args).run Tryz.prog w = .ok (.enter 66 args) w := enters_of Tryz.func66 (by kernel_rfl) rfl
theorem sy_foreign (s : ByteArray) (w : World) : Calls Tryz.prog 40 #[.string s, .func (.func 41) #[] #[]] w fun e w' => e = .returned (.bool (!Mt.asciiB s.data.toList)) ∧ Below w.heap.size w w' := by
  refine (Any.strings_ContainsFunc Tryz.syCont 41 #[] enters_foreign _ s w (foreign_at w)).mono ?_
  rintro e w' ⟨rfl, hb⟩
  refine ⟨?_, hb⟩
  unfold idxFunc
  rw [idx_all _ (fun x hx => decide_eq_true (by omega)) s s.size 0 (by omega), List.drop_zero]
  congr 3
  unfold Mt.asciiB
  refine congrArg (fun f => List.all s.data.toList f) (funext fun c => ?_)
  by_cases h : c.toNat < 128
  · simp [h]; omega
  · simp [h]
theorem sy_strange (s : ByteArray) (w : World) : Calls Tryz.prog 40 #[.string s, .func (.func 66) #[] #[]] w fun e w' => e = .returned (.bool (!decide (∀ c ∈ s.data.toList, Mt.isD c))) ∧ Below w.heap.size w w' := by
  refine (Any.strings_ContainsFunc Tryz.syCont 66 #[] enters_strange _ s w (strange_at w)).mono ?_
  rintro e w' ⟨rfl, hb⟩
  refine ⟨?_, hb⟩
  unfold idxFunc
  rw [idx_all _ (fun x hx => by simp; omega) s s.size 0 (by omega), List.drop_zero]
  congr 3
  rw [Bool.eq_iff_iff, List.all_eq_true, decide_eq_true_eq]
  refine forall_congr' fun c => forall_congr' fun _ => ?_
  unfold Mt.isD
  simp
  omega
end
end Go.Proofs.YtfogcgegllhmmaaGreatDoor
