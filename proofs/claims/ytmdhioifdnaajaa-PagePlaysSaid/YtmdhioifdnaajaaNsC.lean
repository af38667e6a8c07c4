/-
  nest.Copy's enter, of a list whose elements have none beneath.
-/
import Derived.Test.YtmdhioifdnaajaaNsB
import Derived.Test.YtmdhioifdnaajaaGp
set_option linter.unusedVariables false
set_option linter.unusedSimpArgs false
namespace Go.Proofs.Ytmdhioifdnaajaa
open Go.RowKit Go.Shelf

/-- The cells of elements that have none beneath. -/
def flC (l : List (Int × ByteArray)) : List Value := l.flatMap fun q => [.int .i64 q.1, .string q.2, .slice none 0 0]
theorem flC_len : ∀ l : List (Int × ByteArray), (flC l).length = l.length * 3
  | [] => rfl
  | q :: r => by
    show ([_, _, _] ++ flC r).length = _
    rw [List.length_append, flC_len r]; simp; omega
theorem flC_get : ∀ (l : List (Int × ByteArray)) (j : Nat) (hj : j < l.length), (flC l)[j * 3]? = some (.int .i64 l[j].1) ∧ (flC l)[j * 3 + 1]? = some (.string l[j].2) ∧ (flC l)[j * 3 + 2]? = some (.slice none 0 0)
  | [], j, hj => absurd hj (by simp)
  | q :: r, 0, _ => ⟨rfl, rfl, rfl⟩
  | q :: r, j + 1, hj => by
    have h := flC_get r j (by simpa using hj)
    have e : ∀ d, (flC (q :: r))[(j + 1) * 3 + d]? = (flC r)[j * 3 + d]? := fun d => by
      show ([_, _, _] ++ flC r)[_]? = _
      rw [List.getElem?_append_right (by simp; omega)]
      congr 1
      simp; omega
    have e0 := e 0
    rw [Nat.add_zero, Nat.add_zero] at e0
    rw [e0, e 1, e 2]
    exact h
def sameV : Value := .func (.func 29) #[] #[]
def kidsV : Value := .func (.func 30) #[] #[]
theorem Try.infoNode0 : (Try.prog.info? 62).map (fun i => (i.zero, i.size, i.bytes)) = some (some (.agg #[.int .i64 0, .string ⟨#[]⟩, .slice none 0 0]), 3, 48) := by kernel_rfl
theorem Try.infoNlv : (Try.prog.info? 91).map (fun i => (i.zero, i.size, i.bytes)) = some (some (.agg #[.pointer none, .int .i64 0, .slice none 0 0, .int .i64 0]), 4, 48) := by kernel_rfl
/-- A row of n nodes, made. -/
theorem make_nodes (n : Nat) (hn : n ≤ 1000000) (u : World) : ∃ Z : Array Value, Z.size = n * 3 ∧ (Instr.makeSlice 60 (.int .i64 (n : Int)) (.int .i64 (n : Int))).run Try.prog u = .ok (.slice (some ⟨u.heap.size, 0, none⟩) n n) (u.alloc (.cells Z 62)) := by
  obtain ⟨i, hi, hz, hs, hb⟩ := info_parts Try.infoNode0
  have h := run_make (P := Try.prog) u 60 62 i _ Try.underlying60 hi hz .i64 .i64 (n : Int) (n : Int) (by omega) (Int.le_refl _) (by rw [hb]; omega) (by omega)
  exact ⟨_, by simp [madeCells, hs], h⟩
/-- Where a row has a list's first cells. -/
def RowF (g n i : Nat) (fl : List (Int × ByteArray)) (u : World) : Prop := ∃ cur : Array Value, u.heap[g]? = some (.cells cur 62 (0, 0)) ∧ cur.size = n * 3 ∧ ∀ j, j < i * 3 → cur[j]? = (flC fl)[j]?
theorem RowF.cells {g n i : Nat} {fl : List (Int × ByteArray)} {u : World} (h : RowF g n i fl u) (j : Nat) (hj : j < n * 3) : (∃ v, u.cell? ⟨g, j, none⟩ = some v) ∧ u.frozen? ⟨g, j, none⟩ = false := by
  obtain ⟨cur, h1, h2, h3⟩ := h
  exact ⟨⟨cur[j], by rw [cell_of_row u g _ cur 62 (0, 0) h1, Array.getElem?_eq_getElem (by omega)]⟩, frozen_of_row _ _ _ _ _ h1⟩
theorem RowF.kept {g n i : Nat} {fl : List (Int × ByteArray)} {u u' : World} (h : RowF g n i fl u) (hb : u'.heap[g]? = u.heap[g]?) : RowF g n i fl u' := by
  obtain ⟨cur, h1, h2⟩ := h
  exact ⟨cur, hb.trans h1, h2⟩
theorem RowF.lt {g n i : Nat} {fl : List (Int × ByteArray)} {u : World} (h : RowF g n i fl u) : g < u.heap.size := by obtain ⟨cur, h1, _⟩ := h; exact lt_of_block h1
/-- One more. -/
theorem RowF.next {g n i : Nat} {fl : List (Int × ByteArray)} {u : World} (h : RowF g n i fl u) (hn : fl.length = n) (hi : i < n) {t : Int} {d : ByteArray} (hq : fl[i]'(by omega) = (t, d)) :
    RowF g n (i + 1) fl (((u.setCell ⟨g, i * 3, none⟩ (.int .i64 t)).setCell ⟨g, i * 3 + 1, none⟩ (.string d)).setCell ⟨g, i * 3 + 2, none⟩ (.slice none 0 0)) ∧ OnlyS [g] u (((u.setCell ⟨g, i * 3, none⟩ (.int .i64 t)).setCell ⟨g, i * 3 + 1, none⟩ (.string d)).setCell ⟨g, i * 3 + 2, none⟩ (.slice none 0 0)) := by
  obtain ⟨cur, h1, h2, h3⟩ := h
  have e1 := heap_setCell_same u g (i * 3) cur 62 (.int .i64 t) h1
  have e2 := heap_setCell_same _ g (i * 3 + 1) _ 62 (.string d) e1
  have e3 := heap_setCell_same _ g (i * 3 + 2) _ 62 (.slice none 0 0) e2
  refine ⟨⟨_, e3, by simp [h2], fun j hj => ?_⟩, (((OnlyS.refl [g] u).setCell (by simp) _).setCell (by simp) _).setCell (by simp) _⟩
  have hg := flC_get fl i (by omega)
  rw [hq] at hg
  rw [Array.getElem?_setIfInBounds, Array.getElem?_setIfInBounds, Array.getElem?_setIfInBounds]
  simp only [Array.size_setIfInBounds, h2]
  by_cases a2 : i * 3 + 2 = j
  · rw [if_pos a2, if_pos (by omega), ← a2]; exact hg.2.2.symm
  · rw [if_neg a2]
    by_cases a1 : i * 3 + 1 = j
    · rw [if_pos a1, if_pos (by omega), ← a1]; exact hg.2.1.symm
    · rw [if_neg a1]
      by_cases a0 : i * 3 = j
      · rw [if_pos a0, if_pos (by omega), ← a0]; exact hg.1.symm
      · rw [if_neg a0]; exact h3 j (by omega)
/-- The state of a copy, with one list under work: its box, its levels' row, its map. -/
structure CopyS (u : World) (cb lb mb gb : Nat) (lv : Value) (src : Addr) (n d : Nat) : Prop where
  box : u.heap[cb]? = some (.cells #[sameV, kidsV, lv, .map (some mb)] 81)
  row : IsRw 91 4 u lb lv 1 [.pointer (some src), .int .i64 (n : Int), .slice (some ⟨gb, 0, none⟩) n n, .int .i64 (d : Int)]
  map : ∃ b cl, u.heap[mb]? = some (.map #[{ key := plcV src n, val := .slice (some ⟨gb, 0, none⟩) n n, born := b }] cl)
set_option maxRecDepth 100000 in
set_option maxHeartbeats 2000000 in
/-- The copy of a list whose elements have none beneath; their lists are still to be copied. -/
theorem enterFlat_any {fl : List (Int × ByteArray)} {n b cb mb cl : Nat} {w : World} (hn : fl.length = n) (h0 : 0 < n) (h1 : n ≤ 1000) (hb : w.heap[b]? = some (.cells (flC fl).toArray 62)) (hbox : w.heap[cb]? = some (.cells #[sameV, kidsV, .slice none 0 0, .map (some mb)] 81)) (hmap : w.heap[mb]? = some (.map #[] cl)) :
    Calls Try.prog 34 #[.pointer (some ⟨cb, 0, none⟩), .slice (some ⟨b, 0, none⟩) n n] w fun e w' => ∃ gb lb lv, e = .returned (.slice (some ⟨gb, 0, none⟩) n n) ∧ CopyS w' cb lb mb gb lv ⟨b, 0, none⟩ n 0 ∧ RowF gb n n fl w' ∧ w.heap.size ≤ gb ∧ w.heap.size ≤ lb ∧ gb ≠ lb ∧ OnlyS [cb, mb] w w' := by
  have hcb := lt_of_block hbox
  have hmb : mb < w.heap.size := lt_of_block hmap
  have hbl := lt_of_block hb
  have HM := Lib.hid (fun u => make_nodes n (by omega) u)
  have HSM := Lib.hid (fun (t : Int) (d : ByteArray) (u : World) => same7_any t (.string d) (.slice none 0 0) ⟨_, rfl⟩ ⟨_, _, _, rfl⟩ u)
  have HN := Lib.hid hn
  have hne : ((n : Int) == 0) = false := by rw [beq_eq_false_iff_ne]; omega
  have hnm : mb ≠ cb := by intro e; subst e; rw [hmap] at hbox; cases hbox
  obtain ⟨w1, hw1⟩ : ∃ u, w.alloc (.cells #[.pointer (some ⟨b, 0, none⟩), .int .i64 (n : Int)] 88) = u := ⟨_, rfl⟩
  have hA : Below w.heap.size w w1 := by rw [← hw1]; exact (Below.refl _ w).alloc (Nat.le_refl _) _
  have hx1 : w1.heap[w.heap.size]? = some (.cells #[.pointer (some ⟨b, 0, none⟩), .int .i64 (n : Int)] 88) := by rw [← hw1]; exact heap_alloc_new w _
  have HQ : Hid (∀ u, Below w1.heap.size w1 u → OnlyS [] w u ∧ (u.cell? ⟨cb, 0, none⟩ = some sameV ∧ u.cell? ⟨cb, 1, none⟩ = some kidsV ∧ u.cell? ⟨cb, 2, none⟩ = some (.slice none 0 0) ∧ u.cell? ⟨cb, 3, none⟩ = some (.map (some mb))) ∧ u.heap[cb]? = some (.cells #[sameV, kidsV, .slice none 0 0, .map (some mb)] 81) ∧ u.heap[mb]? = some (.map #[] cl) ∧ u.heap[b]? = some (.cells (flC fl).toArray 62) ∧ (u.cell? ⟨w.heap.size, 0, none⟩ = some (.pointer (some ⟨b, 0, none⟩)) ∧ u.cell? ⟨w.heap.size, 1, none⟩ = some (.int .i64 (n : Int)))) := Lib.hid (fun u hu => by
    have h2 := hA.trans (hu.mono hA.size)
    have hr := (hu.block _ (lt_of_block hx1)).trans hx1
    have hc := (h2.block _ hcb).trans hbox
    exact ⟨Below.onlyS h2 (Nat.le_refl _), box4N hc, hc, (h2.block _ hmb).trans hmap, (h2.block _ hbl).trans hb, by rw [cell_of_row _ _ _ _ _ _ hr]; rfl, by rw [cell_of_row _ _ _ _ _ _ hr]; rfl⟩)
  have HS1 : Hid (w.heap.size < w1.heap.size) := Lib.hid (lt_of_block hx1)
  have HBL := Lib.hid (And.intro hcb (And.intro hmb (And.intro hbl hnm)))
  have hlk : ∀ k, (Instr.lookup 78 (.map (some mb)) (.agg #[.pointer (some ⟨b, 0, none⟩), .int .i64 (n : Int)]) true).run Try.prog (w1.drewN k) = .ok (.tuple #[.slice none 0 0, .bool false]) (w1.drewN k) := fun k => nlook (w := w1.drewN k) ⟨b, 0, none⟩ n ((hA.block _ hmb).trans hmap)
  have HR1 := Lib.hid (Below.refl w1.heap.size w1)
  obtain ⟨-, hc1, -, -, -, hp1⟩ := HQ.out w1 HR1.out
  obtain ⟨c0, c1, c2, c3⟩ := hc1
  obtain ⟨p0, p1⟩ := hp1
  clear hA hx1 hb hbox hmap hcb hmb hbl hn hnm
  go_enter Try.func34, Try.ntmps34
  go_upto_region 4 with fail
  clear hw1
  go_quiet (fail)
  have HR2 : Hid (Below w1.heap.size w1 (w1.drewN nq)) := Lib.hid ⟨rfl, rfl, rfl, Nat.le_refl _, fun _ _ => rfl⟩
  clear hlk c0 c1 c2 c3 p0 p1
  generalize w1.drewN nq = w2 at *
  obtain ⟨Z, hZ, hmk⟩ := HM.out w2
  obtain ⟨w3, hw3⟩ : ∃ u, w2.alloc (.cells Z 62) = u := ⟨_, rfl⟩
  have hA3 : Below w2.heap.size w2 w3 := by rw [← hw3]; exact (Below.refl _ w2).alloc (Nat.le_refl _) _
  have hx3 : w3.heap[w2.heap.size]? = some (.cells Z 62) := by rw [← hw3]; exact heap_alloc_new w2 _
  have HF3 : Hid (RowF w2.heap.size n 0 fl w3) := Lib.hid ⟨Z, hx3, hZ, fun j hj => absurd hj (by omega)⟩
  have HB3 := Lib.hid (Below.refl w2.heap.size w3)
  have HA3 := Lib.hid (HR2.out.trans (hA3.mono HR2.out.size))
  have HG : Hid (w1.heap.size ≤ w2.heap.size) := Lib.hid HR2.out.size
  rw [hw3] at hmk
  clear hA3 hx3 hZ
  go_wp2_with fail
  clear hw3 hmk
  go_loopw [35] (fun iv wr => ∃ i : Nat, i ≤ n ∧ iv = .int .i64 (i : Int) ∧ Hid (RowF w2.heap.size n i fl wr) ∧ Hid (Below w2.heap.size w3 wr)) (fun iv _ => n - (intOf iv).toNat)
  case atStart => exact ⟨0, Nat.zero_le _, rfl, HF3, HB3⟩
  case round =>
    clear HF3 HB3
    obtain ⟨i, hi, rfl, HF, HB⟩ := hrel
    have hb1 := HA3.out.trans (HB.out.mono HG.out)
    by_cases hlt : i < n
    · have d1 : decide ((i : Int) < (n : Int)) = true := decide_eq_true (by omega)
      have d2 : decide (i < n) = true := decide_eq_true hlt
      have i0 : (0 : Int) ≤ (i : Int) := by omega
      have i1 : (i : Int) < (n : Int) := by omega
      have hil : i < fl.length := by rw [HN.out]; exact hlt
      obtain ⟨-, hc1, -, -, hbb, -⟩ := HQ.out wr hb1
      obtain ⟨t, hq⟩ : ∃ q, fl[i] = q := ⟨_, rfl⟩
      obtain ⟨t, d⟩ := t
      have hsrc : ∀ k v, k < 3 → (flC fl)[i * 3 + k]? = some v → wr.cell? ⟨b, i * 3 + k, none⟩ = some v := fun k v hk hv => by
        rw [cell_of_row wr b _ _ 62 (0, 0) hbb]
        simpa using hv
      have hg := flC_get fl i hil
      rw [hq] at hg
      have s0 := hsrc 0 _ (by decide) hg.1
      have s1 := hsrc 1 _ (by decide) hg.2.1
      have s2 := hsrc 2 _ (by decide) hg.2.2
      simp only [Nat.add_zero] at s0
      obtain ⟨ka, kn, kc, hk⟩ : ∃ (ka : Option Addr) (kn kc : Nat), Value.slice none 0 0 = .slice ka kn kc := ⟨none, 0, 0, rfl⟩
      rw [hk] at s2
      have HKK := Lib.hid hk
      clear hk
      have hlg := HF.out.lt
      obtain ⟨w4, hw4⟩ : ∃ u, wr.alloc (.cells #[.int .i64 t, .string d, .slice ka kn kc] 62) = u := ⟨_, rfl⟩
      have hA4 : Below wr.heap.size wr w4 := by rw [← hw4]; exact (Below.refl _ wr).alloc (Nat.le_refl _) _
      have hx4 : w4.heap[wr.heap.size]? = some (.cells #[.int .i64 t, .string d, .slice ka kn kc] 62) := by rw [← hw4]; exact heap_alloc_new wr _
      obtain ⟨-, hc4, -⟩ := HQ.out w4 (hb1.trans (hA4.mono hb1.size))
      obtain ⟨c0, c1, c2, c3⟩ := hc4
      obtain ⟨q0, q1, q2⟩ := box3N hx4
      have HF4 := Lib.hid (HF.out.kept (hA4.block _ hlg))
      have HB4 : Hid (Below w2.heap.size w3 w4) := Lib.hid (HB.out.trans (hA4.mono (by omega)))
      have HSt := Lib.hid (fun u => same7_any t (.string d) (.slice ka kn kc) ⟨_, rfl⟩ ⟨_, _, _, rfl⟩ u)
      have HNX : Hid (∀ u, RowF w2.heap.size n i fl u → RowF w2.heap.size n (i + 1) fl (((u.setCell ⟨w2.heap.size, i * 3, none⟩ (.int .i64 t)).setCell ⟨w2.heap.size, i * 3 + 1, none⟩ (.string d)).setCell ⟨w2.heap.size, i * 3 + 2, none⟩ (.slice ka kn kc)) ∧ OnlyS [w2.heap.size] u (((u.setCell ⟨w2.heap.size, i * 3, none⟩ (.int .i64 t)).setCell ⟨w2.heap.size, i * 3 + 1, none⟩ (.string d)).setCell ⟨w2.heap.size, i * 3 + 2, none⟩ (.slice ka kn kc))) := Lib.hid (fun u h => by rw [← HKK.out]; exact h.next HN.out hlt hq)
      have wk : wrap64 ((i : Int) + 1) = ((i + 1 : Nat) : Int) := by unfold wrap64; omega
      have HLT := Lib.hid hlt
      unfold sameV at c0
      clear hc1 hbb hsrc hg hA4 hx4 hlg hb1 hq hil
      go_upto_region 11 with fail
      clear hw4 s0 s1 s2
      go_region_law (first | (go_simp; go_at_call 29; go_must ((refine (HSt.out _).mono ?_); (rintro e w5 ⟨rfl, hb5⟩); (have HF5 := Lib.hid (HF4.out.kept (hb5.block _ HF4.out.lt))); (have HB5 : Hid (Below w2.heap.size w3 w5) := Lib.hid (HB4.out.drew.trans (hb5.mono (Nat.le_of_lt HF4.out.lt)))); (obtain ⟨⟨v0, r0⟩, f0⟩ := HF5.out.cells (i * 3) (by have := HLT.out; omega)); (obtain ⟨⟨v1, r1⟩, f1⟩ := HF5.out.cells (i * 3 + 1) (by have := HLT.out; omega)); (obtain ⟨⟨v2, r2⟩, f2⟩ := HF5.out.cells (i * 3 + 2) (by have := HLT.out; omega)); (clear hb5))))
      all_goals
        have hnx := HNX.out _ HF5.out
        have HF6 := Lib.hid hnx.1
        have HB6 : Hid (Below w2.heap.size w3 _) := Lib.hid (HB5.out.trans (hnx.2.toBelow (D := w2.heap.size) (fun k hk => by simp at hk; omega) (Nat.le_of_lt HF5.out.lt)))
        clear hnx
        go_wp2_with fail
        go_roundw
        case rel => exact ⟨i + 1, by omega, by first | exact congrArg _ wk | rfl | go_num, HF6, HB6⟩
        case measure => simp [intOf]; omega
    · obtain rfl : i = n := by omega
      have d1 : decide ((i : Int) < (i : Int)) = false := decide_eq_false (by omega)
      have d2 : decide (i < i) = false := decide_eq_false (by omega)
      obtain ⟨ho, hc1, hc2, hm1, -, hp1⟩ := HQ.out wr hb1
      obtain ⟨c0, c1, c2, c3⟩ := hc1
      obtain ⟨p0, p1⟩ := hp1
      obtain ⟨w6, hput, hm6, ho6⟩ := nput (w := wr.drew) ⟨b, 0, none⟩ i (.slice (some ⟨w2.heap.size, 0, none⟩) i i) hm1
      unfold plcV at hput
      have hlg := HF.out.lt
      have hsw := HBL.out
      have hs1 := HS1.out
      have hg := HG.out
      have hcb6 : w6.heap[cb]? = some (.cells #[sameV, kidsV, .slice none 0 0, .map (some mb)] 81) := (ho6.block cb (by show cb < wr.heap.size; omega) (by simp; exact fun e => hsw.2.2.2 e.symm)).trans hc2
      have hF6 : RowF w2.heap.size i i fl w6 := HF.out.kept (ho6.block _ (by show _ < wr.heap.size; omega) (by simp; omega))
      have hx6 : w6.cell? ⟨w.heap.size, 0, none⟩ = some (.pointer (some ⟨b, 0, none⟩)) ∧ w6.cell? ⟨w.heap.size, 1, none⟩ = some (.int .i64 (i : Int)) := by
        have hl : w.heap.size < wr.heap.size := by omega
        exact ⟨(ho6.cell (p := ⟨w.heap.size, 0, none⟩) hl (by simp; omega)).trans p0, (ho6.cell (p := ⟨w.heap.size, 1, none⟩) hl (by simp; omega)).trans p1⟩
      obtain ⟨j0, hi0, hz0, hz1, hz2⟩ := info_parts Try.infoNlv
      obtain ⟨a7, cp7, w7, hrun, hown7, hb7⟩ := own_push (T := 79) (tx := 79) Try.underlying79 Try.underlying79 hi0 hz0 hz1 hz2 rfl (IsOwn.nil 91 4 w6.drew.heap.size w6.drew) (Nat.le_refl _) (by simp) #[.pointer (some ⟨b, 0, none⟩), .int .i64 (i : Int), .slice (some ⟨w2.heap.size, 0, none⟩) i i, .int .i64 0] rfl (by simp [Value.oneCell']) (by decide) (by decide)
      obtain ⟨lb, hlb, hrw7⟩ := hown7
      have hlb2 : w6.heap.size ≤ lb := hlb
      have h67 : ∀ k, k < w6.heap.size → w7.heap[k]? = w6.heap[k]? := fun k hk => hb7.block k hk
      have hcb7 := (h67 cb (lt_of_block hcb6)).trans hcb6
      have hm7 := (h67 mb (lt_of_block hm6)).trans hm6
      have hF7 := hF6.kept (h67 _ hF6.lt)
      have ho8 := (OnlyS.refl [cb] w7).setCell (g := cb) (i := 2) (by simp) (.slice a7 (0 + 1) cp7)
      have hcb8 : (w7.setCell ⟨cb, 2, none⟩ (.slice a7 (0 + 1) cp7)).heap[cb]? = some (.cells #[sameV, kidsV, .slice a7 (0 + 1) cp7, .map (some mb)] 81) := by rw [heap_setCell_same w7 cb 2 _ 81 _ hcb7]; rfl
      have hs6 : wr.heap.size ≤ w6.heap.size := ho6.size
      have HFIN : Hid (CopyS (w7.setCell ⟨cb, 2, none⟩ (.slice a7 (0 + 1) cp7)) cb lb mb w2.heap.size (.slice a7 (0 + 1) cp7) ⟨b, 0, none⟩ i 0 ∧ RowF w2.heap.size i i fl (w7.setCell ⟨cb, 2, none⟩ (.slice a7 (0 + 1) cp7)) ∧ w.heap.size ≤ w2.heap.size ∧ w.heap.size ≤ lb ∧ w2.heap.size ≠ lb ∧ OnlyS [cb, mb] w (w7.setCell ⟨cb, 2, none⟩ (.slice a7 (0 + 1) cp7))) := Lib.hid (by
        have hl7 : w6.heap.size ≤ w7.heap.size := hb7.size
        refine ⟨⟨hcb8, ?_, cl, cl + 1, ?_⟩, hF7.kept (ho8.block _ hF7.lt (by simp; omega)), by omega, by omega, by omega, ?_⟩
        · have hr := hrw7.other ho8 (by simp; omega)
          simpa using hr
        · exact (ho8.block mb (by have := lt_of_block hm7; exact this) (by simp; exact hsw.2.2.2)).trans hm7
        · refine (ho.mono (by simp)).trans (((OnlyS.refl [cb, mb] wr).drew.trans (ho6.mono (by simp))).trans ?_)
          refine OnlyS.trans ⟨hb7.os, hb7.tape, hb7.output, hb7.size, fun k hk _ => h67 k hk⟩ (ho8.mono (by simp)))
      obtain ⟨y0, y1, y2, y3⟩ := box4N hcb6
      obtain ⟨-, -, e2, -⟩ := box4N (((Below.refl w6.heap.size w6).alloc (Nat.le_refl _) (.cells #[.pointer (some ⟨b, 0, none⟩), .int .i64 (i : Int), .slice (some ⟨w2.heap.size, 0, none⟩) i i, .int .i64 0] 91)).drew.block cb (lt_of_block hcb6) |>.trans hcb6)
      obtain ⟨z0, z1, z2, z3⟩ := box4N hcb7
      have g2 : w7.frozen? ⟨cb, 2, none⟩ = false := frozen_of_row _ _ _ _ _ hcb7
      obtain ⟨x0, x1⟩ := hx6
      simp only [Nat.zero_add] at hrun HFIN
      clear ho hc2 hm1 hm6 ho6 hlg hsw hs1 hg hcb6 hF6 hi0 hz0 hz1 hz2 hb7 hlb hrw7 hlb2 h67 hcb7 hm7 hF7 ho8 hcb8 hs6 hb1
      go_upto_region 13 with fail
      go_region
      all_goals
        go_upto_region 14 with fail
        go_region_law (first | (refine step_append_eq (w := (w6.alloc (.cells #[.pointer (some ⟨b, 0, none⟩), .int .i64 (i : Int), .slice (some ⟨w2.heap.size, 0, none⟩) i i, .int .i64 0] 91)).drew) rfl (.tmp 60) (.tmp 64) 79 79 rfl _ _ (by rfl) (by rfl) hrun ?_))
        all_goals
          go_wp2_with fail
          all_goals (go_ret; exact ⟨_, _, _, rfl, HFIN.out⟩)
end Go.Proofs.Ytmdhioifdnaajaa
