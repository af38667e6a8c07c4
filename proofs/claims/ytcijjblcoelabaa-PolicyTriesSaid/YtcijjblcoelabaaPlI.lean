/-
  One time more in its place, where there is no room: slices.Insert in a new row.
-/
import Derived.Test.YtcijjblcoelabaaPlH
set_option linter.unusedVariables false
set_option linter.unusedSimpArgs false
namespace Go.Proofs.Ytcijjblcoelabaa
open Go.RowKit Go.Shelf Go.Lib

set_option maxRecDepth 100000 in
set_option maxHeartbeats 4000000 in
/-- Within, where there is no room: in a new row. -/
theorem insertGrow_any {w : World} {g vb off cap i m : Nat} {l : List Int} {cur : Array Value} (x : Int) (hm : m = 1) (hg : w.heap[g]? = some (.cells cur 2 (0, 0))) (hle : l.length ≤ cap) (hroom : cap < l.length + 1) (hc : ∀ j (hj : j < l.length), cur[off + j]? = some (.int .i64 l[j]))
    (hv : w.heap[vb]? = some (.cells #[.int .i64 x] 2)) (hi : i < l.length) (hn : l.length ≤ 1000) :
    Calls Try.prog 63 #[.slice (some ⟨g, off, none⟩) l.length cap, .int .i64 (i : Int), .slice (some ⟨vb, 0, none⟩) m 1] w fun e w' => ∃ c, e = .returned (.slice (some ⟨w.heap.size, 0, none⟩) (l.length + m) c) ∧ IsRw 2 1 w' w.heap.size (.slice (some ⟨w.heap.size, 0, none⟩) (l.length + 1) c) (l.take i ++ x :: l.drop i).length (tms (l.take i ++ x :: l.drop i)) ∧ Below w.heap.size w w' := by
  obtain ⟨i0, hi0, hz0, hzs, hzb⟩ := info_parts Try.infoI64
  have hdl : (tms (l.drop i)).length = l.length - i := by rw [tms_len, List.length_drop]
  have htl : ((tms l).take i).length = i := by rw [List.length_take, tms_len]; omega
  have hgw := lt_of_block hg
  have hvw := lt_of_block hv
  have hcs : ∀ j v, (tms l)[j]? = some v → w.cell? ⟨g, off + j, none⟩ = some v := fun j v hj => by
    have hjl : j < l.length := by
      rcases Nat.lt_or_ge j l.length with h | h
      · exact h
      · rw [List.getElem?_eq_none (by rw [tms_len]; exact h)] at hj; cases hj
    rw [cell_of_row _ g _ cur 2 (0, 0) hg, hc j hjl, ← tms_get l j hjl, hj]
  have hold : (Builtin.firstCells i0.size i (.slice (some ⟨g, off, none⟩) i cap)).run Try.prog w.drew = .ok ((tms l).take i).toArray w.drew := by
    rw [hzs]
    exact run_firstCells_some w.drew 1 i ⟨g, off, none⟩ i cap ((tms l).take i) (by rw [htl]; omega) (fun j v hj => by
      rw [add_off]
      rw [List.getElem?_take] at hj
      split at hj
      · exact hcs j v hj
      · cases hj)
  have hik : i + (l.length + m - i) = l.length + m := by omega
  have hkk : (l.length : Int) + (m : Int) - (i : Int) = ((l.length + m - i : Nat) : Int) := by omega
  obtain ⟨G, hG⟩ : ∃ G, G = grownCap w (l.length + m) cap 2 := ⟨_, rfl⟩
  obtain ⟨ROW, hROW⟩ : ∃ ROW : Array Value, ROW = ((tms l).take i).toArray ++ Builtin.zeroCells (Value.int .i64 0).cells (l.length + m - i) ++ Builtin.zeroCells (Value.int .i64 0).cells (G - (l.length + m)) := ⟨_, rfl⟩
  have hrz : ∀ ty, (Builtin.append_ #[24, 3] ty #[.slice (some ⟨g, off, none⟩) i cap, .int .i64 ((l.length : Int) + (m : Int) - (i : Int))]).run Try.prog w =
      .ok (.slice (some ⟨w.heap.size, 0, none⟩) (l.length + m) G) (w.drew.alloc (.cells ROW 2)) := fun ty => by
    have h := Lib.run_append_grow_zeros w 24 3 ty 2 i0 _ .i64 .i64 Try.underlying24 Try.underlying3 hi0 hz0 (some ⟨g, off, none⟩) i cap ((tms l).take i) hold (l.length + m - i) (by omega) (by omega) (by omega) (by omega) (by rw [hzb]; omega) (by rw [hzb, hik]; exact growslice_fits (by omega) (by omega))
    rw [hik] at h
    rw [hkk, hROW, hG]
    exact h
  have hGn : l.length + m ≤ G := by rw [hG]; exact grownCap_ge w _ _ _
  have hG63 : G ≤ 9223372036854775807 := by
    have := grownCap_le_maxLen w (l.length + m) cap 2 (by unfold maxLen; omega)
    rw [← hG] at this
    unfold maxLen at this
    omega
  have hRs : ROW.size = G := by
    rw [hROW]
    simp only [Array.size_append, size_zeroCells, List.size_toArray, htl, Value.cells]
    simp; omega
  have hRl : ∀ j (hj : j < i), ∃ h : j < l.length, ROW[j]? = some (.int .i64 l[j]) := fun j hj => by
    refine ⟨by omega, ?_⟩
    rw [hROW, Array.getElem?_append_left (by rw [Array.size_append, List.size_toArray, htl]; omega), Array.getElem?_append_left (by rw [List.size_toArray, htl]; exact hj), List.getElem?_toArray, List.getElem?_take, if_pos hj]
    exact tms_get l j (by omega)
  clear hROW hG hold
  -- the rows, one behind the other
  obtain ⟨N, hN⟩ : ∃ N, w.heap.size = N := ⟨_, rfl⟩
  have r0 : ((w.alloc (.cells ROW 2)).drew).heap[N]? = some (.cells ROW 2 (0, 0)) := by rw [← hN]; exact heap_alloc_new w _
  have b0 : Below w.heap.size w ((w.alloc (.cells ROW 2)).drew) := ((Below.refl _ w).alloc (Nat.le_refl _) _).drew
  obtain ⟨cur1, e1, e2, e3, e4, e5⟩ := row_setCells N (tms [x]) i _ ROW r0 (by rw [tms_len, hRs]; simp; omega)
  have e1d : ((((w.alloc (.cells ROW 2)).drew).setCells N i (tms [x])).drew).heap[N]? = some (.cells cur1 2 (0, 0)) := e1
  obtain ⟨cur2, f1, f2, f3, f4, f5⟩ := row_setCells N (tms (l.drop i)) (i + m) _ cur1 e1d (by rw [hdl, e2, hRs]; omega)
  have HFIN : Hid (IsRw 2 1 (((((w.alloc (.cells ROW 2)).drew).setCells N i (tms [x])).drew).setCells N (i + m) (tms (l.drop i))) N (.slice (some ⟨N, 0, none⟩) (l.length + 1) G) (l.take i ++ x :: l.drop i).length (tms (l.take i ++ x :: l.drop i)) ∧ Below w.heap.size w (((((w.alloc (.cells ROW 2)).drew).setCells N i (tms [x])).drew).setCells N (i + m) (tms (l.drop i)))) := Lib.hid (by
    have hlen := Mt.ins_len (l := l) (i := i) x (Nat.le_of_lt hi)
    refine ⟨?_, b0.trans (((e5.drew).trans f5).toBelow (fun k hk => by simp at hk; omega) b0.size)⟩
    rw [← hlen]
    refine IsRw.make f1 (by omega) (by rw [f2, e2, hRs]; omega) (fun j hj => ?_)
    obtain ⟨a1, a2, a3⟩ := Mt.ins_get (l := l) x (Nat.le_of_lt hi) j hj
    rw [hlen] at hj
    rw [Nat.zero_add]
    rcases Nat.lt_trichotomy j i with h | h | h
    · obtain ⟨hjl, e⟩ := a1 h
      obtain ⟨_, er⟩ := hRl j h
      rw [e, f3 _ (by omega), e3 _ (by omega), er]
    · subst h
      rw [a2 rfl, f3 _ (by omega)]
      have := e4 0 (by simp [tms])
      rw [Nat.add_zero] at this
      rw [this]; simp [tms]
    · obtain ⟨hjl, e⟩ := a3 h
      rw [e]
      have := f4 (j - 1 - i) (by rw [hdl]; exact ins_arith3 h hj)
      rw [ins_arith5 hm h] at this
      rw [this]
      simp only [tms, List.getElem_map, List.getElem_drop, ins_arith2 h])
  have hsp1 : ∀ j, j < l.length + m → (((w.alloc (.cells ROW 2)).drew).cell? ⟨N, j, none⟩).isSome = true := fun j hj => by
    rw [cell_of_row _ N _ ROW 2 (0, 0) r0, Array.getElem?_eq_getElem (by omega)]; rfl
  have hcpA : ∀ (W : World), (∀ y, W.cell? y = ((w.alloc (.cells ROW 2)).drew).cell? y) → (∀ y, W.frozen? y = ((w.alloc (.cells ROW 2)).drew).frozen? y) → ∀ ty dc, (Builtin.copy_ #[24, 24] ty #[.slice (some ⟨N, i, none⟩) (l.length + m - i) dc, .slice (some ⟨vb, 0, none⟩) m 1]).run Try.prog W = .ok (goInt (tms [x]).length) (W.setCells N i (tms [x])) := fun W hWc hWf ty dc =>
    run_copy_cells W _ _ ty 2 N i (l.length + m - i) dc ⟨vb, 0, none⟩ m 1 (tms [x]) Try.underlying24 Try.szI64 (by simp only [tms_len, List.length_singleton, Nat.min_def]; split <;> omega)
      (fun j v hj => by
        have hj0 : j = 0 := by
          rcases Nat.eq_zero_or_pos j with h | h
          · exact h
          · rw [List.getElem?_eq_none (by simp [tms]; omega)] at hj; cases hj
        subst hj0
        rw [add_off, hWc, b0.cell (p := ⟨vb, 0 + 0, none⟩) hvw, cell_of_row _ vb _ _ _ _ hv]
        simpa [tms] using hj)
      (fun j hj => by simp only [tms_len, List.length_singleton] at hj; rw [hWc]; exact hsp1 _ (by omega))
      (fun j hj => by rw [hWf]; exact frozen_of_row _ _ _ _ _ r0) (tms_one _)
  have hcpB : ∀ (W : World), (∀ y, W.cell? y = ((((w.alloc (.cells ROW 2)).drew).setCells N i (tms [x])).drew).cell? y) → (∀ y, W.frozen? y = ((((w.alloc (.cells ROW 2)).drew).setCells N i (tms [x])).drew).frozen? y) → ∀ ty dc sc, (Builtin.copy_ #[24, 24] ty #[.slice (some ⟨N, i + m, none⟩) (l.length + m - (i + m)) dc, .slice (some ⟨g, off + i, none⟩) (l.length - i) sc]).run Try.prog W = .ok (goInt (tms (l.drop i)).length) (W.setCells N (i + m) (tms (l.drop i))) := fun W hWc hWf ty dc sc =>
    run_copy_cells W _ _ ty 2 N (i + m) (l.length + m - (i + m)) dc ⟨g, off + i, none⟩ (l.length - i) sc (tms (l.drop i)) Try.underlying24 Try.szI64 (by rw [hdl]; simp only [Nat.min_def]; split <;> omega)
      (fun j v hj => by
        have hb : Below w.heap.size w ((((w.alloc (.cells ROW 2)).drew).setCells N i (tms [x])).drew) := b0.trans ((e5.drew).toBelow (fun k hk => by simp at hk; omega) b0.size)
        rw [add_off, Nat.add_assoc, hWc, hb.cell (p := ⟨g, off + (i + j), none⟩) hgw]
        refine hcs (i + j) v ?_
        rw [show tms (l.drop i) = (tms l).drop i by simp [tms], List.getElem?_drop] at hj
        exact hj)
      (fun j hj => by
        rw [hdl] at hj
        rw [hWc, cell_of_row _ N _ cur1 2 (0, 0) e1d, Array.getElem?_eq_getElem (by rw [e2, hRs]; omega)]; rfl)
      (fun j hj => by rw [hWf]; exact frozen_of_row _ _ _ _ _ e1d) (tms_one _)
  have hm0 : 0 < m := by omega
  have hm1 : m ≤ 1 := by omega
  obtain ⟨n, hNn⟩ : ∃ n, l.length = n := ⟨_, rfl⟩
  have HN := Lib.hid hNn
  rw [hNn] at hi hn hle hroom hrz hcpA hcpB hdl hGn HFIN ⊢
  have hz1 : ¬ ((m : Int) = 0) := by omega
  have hz2 : ¬ ((i : Int) = (n : Int)) := by omega
  have hz3 : (cap : Int) < (n : Int) + (m : Int) := by omega
  have hb0 : (0 : Int) ≤ (n : Int) + (m : Int) := by omega
  have hb1 : (0 : Int) ≤ (i : Int) + (m : Int) := by omega
  have hin : i ≤ n := by omega
  have hI0 : (0 : Int) ≤ (i : Int) := by omega
  have hII : (i : Int) ≤ (n : Int) := by omega
  have hIc : (i : Int) ≤ (cap : Int) := by omega
  have htn : ((i : Int) + (m : Int)).toNat = i + m := by omega
  have htm : ((n : Int) + (m : Int)).toNat = n + m := by omega
  have hGi : ¬ (G = i) := by omega
  have hGim : ¬ (G = i + m) := by omega
  have hci : ¬ (cap = i) := by omega
  have hb3 : (i : Int) ≤ (n : Int) + (m : Int) := by omega
  have hb6 : (i : Int) + (m : Int) ≤ (n : Int) + (m : Int) := by omega
  have hwr : ∀ a b : Nat, a ≤ 1000 → b ≤ 1 → IntKind.i64.wrap ((a : Int) + (b : Int)) = (a : Int) + (b : Int) ∧ wrap64 ((a : Int) + (b : Int)) = (a : Int) + (b : Int) := fun a b ha hb => ⟨by rw [IntKind.wrap_i64]; omega, by unfold wrap64; omega⟩
  have hws : ∀ a b c : Nat, a ≤ 1000 → b ≤ 1 → c ≤ 1000 → IntKind.i64.wrap ((a : Int) + (b : Int) - (c : Int)) = (a : Int) + (b : Int) - (c : Int) ∧ wrap64 ((a : Int) + (b : Int) - (c : Int)) = (a : Int) + (b : Int) - (c : Int) := fun a b c ha hb hc => ⟨by rw [IntKind.wrap_i64]; omega, by unfold wrap64; omega⟩
  have hi9 : i ≤ 1000 := by omega
  obtain ⟨hw1, hw2⟩ := hwr i m hi9 hm1
  obtain ⟨hw4, hw3⟩ := hwr n m hn hm1
  obtain ⟨hw5, hw6⟩ := hws n m i hn hm1 hi9
  clear hwr hws hi9 e1 e2 e3 e4 e5 f1 f2 f3 f4 f5 hg hc hv hcs hdl hNn hm1 hm e1d r0 b0 hsp1 hRl hRs hkk hik htl hgw hvw hz0 hzs hzb hi0
  have HNW := Lib.hid hN
  rw [hN] at hrz ⊢
  have mixed : Try.prog.follows .mixedOrders = true := by kernel_rfl
  have HRZ := Lib.hid hrz
  have HCA := Lib.hid hcpA
  have HCB := Lib.hid hcpB
  have hca := HCA.out ((w.alloc (.cells ROW 2)).drew) (fun _ => rfl) (fun _ => rfl)
  clear hrz hcpA hcpB hGn hG63 hN hroom hle
  go_enter Try.func63, Try.ntmps63
  go_wp2_with (first
    | (at_builtin; refine Lib.wpList_append_run _ rfl _ _ _ _ rfl _ _ rfl rfl _ _ (HRZ.out _) ?_))
  go_region_law_o (refine step_copy_runI rfl _ _ 24 24 rfl (.slice (some ⟨N, i + m, none⟩) (n + m - (i + m)) (G - (i + m))) (.slice (some ⟨g, off + i, none⟩) (n - i) (cap - i)) (by simp [Act.eval, Act.put]) (by simp [Act.eval, Act.put]) (HCB.out _ (fun _ => rfl) (fun _ => rfl) 3 (G - (i + m)) (cap - i)) ?_)
  go_wp2_with fail
  go_ret
  exact ⟨G, rfl, by have h := HFIN.out; rw [HNW.out] at h; exact h⟩
/-- One time more at a place. -/
theorem insert23_any {w : World} {g vb : Nat} {v : Value} {l : List Int} (x : Int) (i : Nat) (h : IsRw 2 1 w g v l.length (tms l)) (hv : w.heap[vb]? = some (.cells #[.int .i64 x] 2)) (hne : vb ≠ g) (hi : i ≤ l.length) (hn : l.length ≤ 1000) :
    Calls Try.prog 63 #[v, .int .i64 (i : Int), .slice (some ⟨vb, 0, none⟩) 1 1] w fun e w' => ∃ a m c g', e = .returned (.slice a m c) ∧ IsRw 2 1 w' g' (.slice a m c) (l.take i ++ x :: l.drop i).length (tms (l.take i ++ x :: l.drop i)) ∧ (g' = g ∨ g' = w.heap.size) ∧ OnlyS [g] w w' := by
  have hlen := Mt.ins_len (l := l) (i := i) x hi
  by_cases he : i = l.length
  · subst he
    have e : l.take l.length ++ x :: l.drop l.length = l ++ [x] := by rw [List.take_length, List.drop_length]
    rw [e]
    exact insertEnd_any x h hv hn
  · obtain ⟨off, cap, cur, rfl, hg, hle, hsz, hc⟩ := h.raw (by omega)
    by_cases hr : l.length + 1 ≤ cap
    · refine (insertRoom_any (m := 1) x rfl hg hr hsz hc hv hne (by omega) hn).mono ?_
      rintro e w' ⟨rfl, h1, h2⟩
      exact ⟨_, _, _, g, rfl, h1, .inl rfl, h2⟩
    · refine (insertGrow_any (m := 1) x rfl hg hle (by omega) hc hv (by omega) hn).mono ?_
      rintro e w' ⟨c, rfl, h1, h2⟩
      exact ⟨_, _, _, _, rfl, h1, .inr rfl, Below.onlyS h2 (Nat.le_refl _)⟩
end Go.Proofs.Ytcijjblcoelabaa
