/-
  Some texts of one proof, one behind the other.
-/
import Derived.IntWalk
import Derived.WalkSpells
import Derived.WalkLawsBesides
import Derived.Deep.QuietTactic
import Derived.BigQuiet
import Derived.Test.YtnioagojiipjlaaGreatPk0
import Derived.Test.YtnioagojiipjlaaGreatPk3
import Derived.Test.YtnioagojiipjlaaGreatPk4
set_option linter.unusedVariables false
set_option linter.unusedSimpArgs false

/-
  What the journal's small calls on sectors come to: cells, Need, marked, number.
-/
namespace Go.Proofs.YtnioagojiipjlaaGreat
open Go.RowKit

set_option maxRecDepth 100000 in
theorem cells_any (n : Nat) (w : World) (hn : n ≤ 140737488355328) : Calls Tryz.prog 55 #[.int .i64 n] w fun e w' => e = .returned (.int .i64 (Mt.cellsN n : Int)) ∧ w = w' := by
  have HR := Lib.hid (show (Mt.cellsN n : Int) = ((max 1 ((n + 109) / 110) : Nat) : Int) from rfl)
  generalize (Mt.cellsN n : Int) = r at HR ⊢
  go_enter Tryz.func55, Tryz.ntmps55
  go_wp2
  all_goals
    go_ret
    exact ⟨Mt.ret_int (by rw [HR.out]; omega), rfl⟩
set_option maxRecDepth 100000 in
theorem need_no (n : Int) (w : World) (h : n < 0 ∨ 262144 < n) : Calls Tryz.prog 35 #[.int .i64 n] w fun e w' => e = .returned (.int .i64 0) ∧ w = w' := by
  rcases h with h | h
  · go_enter Tryz.func35, Tryz.ntmps35
    go_wp2_with fail
    go_ret
    exact ⟨rfl, rfl⟩
  · have hd : decide (n < 0) = false := decide_eq_false (by omega)
    go_enter Tryz.func35, Tryz.ntmps35
    go_wp2_with fail
    go_ret
    exact ⟨rfl, rfl⟩
set_option maxRecDepth 100000 in
theorem need_yes (n : Nat) (w : World) (h : n ≤ 262144) : Calls Tryz.prog 35 #[.int .i64 n] w fun e w' => e = .returned (.int .i64 (Mt.cellsN n : Int)) ∧ w = w' := by
  have HC := Lib.hid (cells_any n w (by omega))
  have hd : decide ((n : Int) < 0) = false := decide_eq_false (by omega)
  have hd2 : decide ((262144 : Int) < n) = false := decide_eq_false (by omega)
  go_enter Tryz.func35, Tryz.ntmps35
  go_wp2_with fail
  refine (HC.out).mono ?_
  rintro e w' ⟨rfl, rfl⟩
  go_wp2_with fail
  go_ret
  exact ⟨rfl, rfl⟩
theorem number_any (s : ByteArray) (a size : Nat) (w : World) (hs : s.size ≤ 281474976710700) (h1 : 1 ≤ size) (h2 : size ≤ 8) (h : a + size ≤ s.size) :
    Calls Tryz.prog 83 #[.string s, .int .i64 a, .int .i64 size] w fun e w' => e = .returned (.int .u64 (Mt.gn s.data.toList a size : Int)) ∧ w = w' := by
  have HC := Lib.hid (get_yes s a size w hs h1 h2 h)
  clear hs h1 h2 h
  go_enter Tryz.func83, Tryz.ntmps83
  go_wp2_with fail
  refine (HC.out).mono ?_
  rintro e w' ⟨rfl, rfl⟩
  go_wp2_with fail
  go_ret
  exact ⟨rfl, rfl⟩
set_option maxRecDepth 100000 in
theorem marked_short (s : ByteArray) (m : UInt8) (w : World) (h : s.size ≠ 128) : Calls Tryz.prog 82 #[.string s, .string ⟨#[m]⟩] w fun e w' => e = .returned (.bool false) ∧ w = w' := by
  have hd : ((s.size : Int) == 128) = false := by simp; omega
  go_enter Tryz.func82, Tryz.ntmps82
  go_wp2_with fail
  go_ret
  exact ⟨rfl, rfl⟩
theorem Mt.mark_eq (s : ByteArray) (m : UInt8) (h : s.size = 128) : (s.extract 4 5).data.toList = [s.data.toList.getD 4 0] := by
  have hl : s.data.toList.length = 128 := h
  rw [ByteArray.data_extract, Array.toList_extract]
  unfold List.extract
  have e : s.data.toList.drop 4 = s.data.toList.getD 4 0 :: s.data.toList.drop 5 := by
    rw [List.drop_eq_getElem_cons (by omega)]
    simp [List.getD, List.getElem?_eq_getElem (show 4 < s.data.toList.length by omega)]
  rw [e]; rfl
set_option maxRecDepth 100000 in
theorem marked_any (s : ByteArray) (m : UInt8) (w : World) (h : s.size = 128) : Calls Tryz.prog 82 #[.string s, .string ⟨#[m]⟩] w fun e w' => e = .returned (.bool (decide (s.data.toList.getD 4 0 = m))) ∧ w = w' := by
  have hd : ((s.size : Int) == 128) = true := by simp; omega
  have h0 : (4 : Int) ≤ 5 := by omega
  have h1 : (5 : Int) ≤ (s.size : Int) := by omega
  have HM := Lib.hid (Mt.mark_eq s m h)
  clear h
  go_enter Tryz.func82, Tryz.ntmps82
  go_wp2_with fail
  go_ret
  refine ⟨Mt.ret_bool ?_, rfl⟩
  rw [Bool.eq_iff_iff]
  simp only [beq_iff_eq, decide_eq_true_eq, ByteArray.toList_eq]
  rw [HM.out]
  simp
end Go.Proofs.YtnioagojiipjlaaGreat

/-
  What the journal's calls on cells come to: sound.
-/
namespace Go.Proofs.YtnioagojiipjlaaGreat
open Go.RowKit

/-- A cell as a value. -/
def clV (c : Mt.Cl) : Array Value := #[.int .u64 (c.gen : Int), .int .u64 (c.number : Int), .int .i64 (c.part : Int), .int .i64 (c.parts : Int), .string (Mt.str c.body)]
theorem box5_of {w : World} {b : Nat} {x y z u v : Value} {T : TypeId} {fr : Nat × Nat} (h : w.heap[b]? = some (.cells #[x, y, z, u, v] T fr)) : w.cell? ⟨b, 0, none⟩ = some x ∧ w.cell? ⟨b, 1, none⟩ = some y ∧ w.cell? ⟨b, 2, none⟩ = some z ∧ w.cell? ⟨b, 3, none⟩ = some u ∧ w.cell? ⟨b, 4, none⟩ = some v := by
  simp [World.cell?, h]
theorem alloc5 (w : World) (x y z u v : Value) (T : TypeId) : ∀ u', Below (w.alloc (.cells #[x, y, z, u, v] T)).heap.size (w.alloc (.cells #[x, y, z, u, v] T)) u' → u'.heap[w.heap.size]? = some (.cells #[x, y, z, u, v] T (0, 0)) :=
  fun u' hb => (hb.block _ (by simp)).trans (heap_alloc_new w _)

set_option maxRecDepth 100000 in
theorem sound_any (c : Mt.Cl) (hf : c.Fits) (w : World) : Calls Tryz.prog 85 #[.agg (clV c)] w fun e w' => e = .returned (.bool c.sound) ∧ Below w.heap.size w w' := by
  obtain ⟨g, n, p, q, b⟩ := c
  obtain ⟨h1, h2, h3, h4, h5⟩ := hf
  simp only at h1 h2 h3 h4 h5
  have HR := Lib.hid (show (Mt.Cl.mk g n p q b).sound = (if g = 0 ∨ q ≤ p then false else if p + 1 < q then decide (b.length = 110) else (decide (0 < b.length) || decide (q = 1))) from rfl)
  have HB := Lib.hid ((Below.refl w.heap.size w).alloc (Nat.le_refl _) (.cells #[.int .u64 (g : Int), .int .u64 (n : Int), .int .i64 (p : Int), .int .i64 (q : Int), .string (Mt.str b)] 106))
  obtain ⟨c0, c1, c2, c3, c4⟩ := box5_of (heap_alloc_new w (.cells #[.int .u64 (g : Int), .int .u64 (n : Int), .int .i64 (p : Int), .int .i64 (q : Int), .string (Mt.str b)] 106))
  have HS := Lib.hid (Mt.str_size b)
  generalize (Mt.Cl.mk g n p q b).sound = r at HR ⊢
  unfold clV
  simp only
  generalize Mt.str b = S at *
  by_cases hg : g = 0
  · have hd : ((g : Int) == 0) = true := by simp [hg]
    have HG := Lib.hid hg
    clear hg
    go_enter Tryz.func85, Tryz.ntmps85
    go_wp2_with fail
    go_ret
    exact ⟨Mt.ret_bool (by rw [HR.out, if_pos (.inl HG.out)]), HB.out⟩
  · have hd : ((g : Int) == 0) = false := by simp; omega
    by_cases hp : q ≤ p
    · have hd2 : decide (q ≤ p) = true := decide_eq_true hp
      have hd3 : decide ((q : Int) ≤ (p : Int)) = true := decide_eq_true (by omega)
      have HG := Lib.hid hp
      clear hp hg
      go_enter Tryz.func85, Tryz.ntmps85
      go_wp2_with fail
      go_ret
      exact ⟨Mt.ret_bool (by rw [HR.out, if_pos (.inr HG.out)]), HB.out⟩
    · have hd2 : decide (q ≤ p) = false := decide_eq_false hp
      have hd3 : decide ((q : Int) ≤ (p : Int)) = false := decide_eq_false (by omega)
      have hq1 : 1 ≤ q := by omega
      by_cases hl : p + 1 < q
      · have hd4 : decide ((p : Int) < (q : Int) - 1) = true := decide_eq_true (by omega)
        have HG := Lib.hid hp
        have HQ := Lib.hid hg
        have HL := Lib.hid hl
        clear hp hg hl
        go_enter Tryz.func85, Tryz.ntmps85
        go_wp2_with fail
        go_ret
        exact ⟨Mt.ret_bool (by rw [HR.out, if_neg (by have := HG.out; have := HQ.out; omega), if_pos HL.out, ← HS.out]; rw [Bool.eq_iff_iff]; simp; omega), HB.out⟩
      · have hd4 : decide ((p : Int) < (q : Int) - 1) = false := decide_eq_false (by omega)
        have HG := Lib.hid hp
        have HQ := Lib.hid hg
        have HL := Lib.hid hl
        clear hp hg hl
        have HX := Lib.hid (show (if g = 0 ∨ q ≤ p then false else if p + 1 < q then decide (b.length = 110) else (decide (0 < b.length) || decide (q = 1))) = (decide (0 < b.length) || decide (q = 1)) by rw [if_neg (by have := HG.out; have := HQ.out; omega), if_neg HL.out])
        by_cases h0 : 0 < S.size
        · have hd5 : decide (0 < S.size) = true := decide_eq_true h0
          have HS0 := Lib.hid h0
          clear h0
          go_enter Tryz.func85, Tryz.ntmps85
          go_wp2_with fail
          go_ret
          exact ⟨Mt.ret_bool (by rw [HR.out, HX.out, ← HS.out]; have := HS0.out; simp; omega), HB.out⟩
        · have hd5 : decide (0 < S.size) = false := decide_eq_false h0
          have HS0 := Lib.hid h0
          clear h0
          go_enter Tryz.func85, Tryz.ntmps85
          go_wp2_with fail
          go_ret
          exact ⟨Mt.ret_bool (by rw [HR.out, HX.out, ← HS.out]; have := HS0.out; rw [Bool.eq_iff_iff]; simp; omega), HB.out⟩
end Go.Proofs.YtnioagojiipjlaaGreat
