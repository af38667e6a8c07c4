/-
  One time more in its place: slices.Insert of one element.
-/
import Derived.Test.YtcijjblcoelabaaPlG
import Derived.Shelf.Spec.SlicesInsertGrow
set_option linter.unusedVariables false
set_option linter.unusedSimpArgs false
namespace Go.Proofs.Ytcijjblcoelabaa
open Go.RowKit Go.Shelf Go.Lib

/-- A row's block, as it is. -/
theorem IsRw.raw {w : World} {g : Nat} {v : Value} {l : List Int} (h : IsRw 2 1 w g v l.length (tms l)) (hn : 0 < l.length) : ∃ off cap cur, v = .slice (some ⟨g, off, none⟩) l.length cap ∧ w.heap[g]? = some (.cells cur 2 (0, 0)) ∧ l.length ≤ cap ∧ off + cap ≤ cur.size ∧ ∀ j (hj : j < l.length), cur[off + j]? = some (.int .i64 l[j]) := by
  obtain ⟨hl, h⟩ := h
  rcases h with ⟨h0, _⟩ | ⟨off, cap, cur, h1, h2, h3, h4, h5⟩
  · omega
  · refine ⟨off, cap, cur, h1, h2, h3, by omega, fun j hj => ?_⟩
    rw [h5 j (by rw [tms_len]; exact hj)]
    have := tms_get l j hj
    rw [List.getElem?_eq_getElem (by rw [tms_len]; exact hj)] at this
    exact this
/-- What a row holds, cell by cell, is this list. -/
theorem IsRw.make {w : World} {g off cap : Nat} {cur : Array Value} {r : List Int} (hg : w.heap[g]? = some (.cells cur 2 (0, 0))) (hle : r.length ≤ cap) (hsz : off + cap ≤ cur.size) (hc : ∀ j (hj : j < r.length), cur[off + j]? = some (.int .i64 r[j])) : IsRw 2 1 w g (.slice (some ⟨g, off, none⟩) r.length cap) r.length (tms r) := by
  refine ⟨by rw [tms_len]; omega, .inr ⟨off, cap, cur, rfl, hg, hle, by omega, fun j hj => ?_⟩⟩
  rw [tms_len] at hj
  rw [hc j hj]
  have := tms_get r j hj
  rw [List.getElem?_eq_getElem (by rw [tms_len]; exact hj)] at this
  exact this.symm
theorem Mt.ins_get {l : List Int} {i : Nat} (x : Int) (hi : i ≤ l.length) (j : Nat) (hj : j < (l.take i ++ x :: l.drop i).length) :
    (j < i → ∃ h : j < l.length, (l.take i ++ x :: l.drop i)[j] = l[j]) ∧ (j = i → (l.take i ++ x :: l.drop i)[j] = x) ∧ (i < j → ∃ h : j - 1 < l.length, (l.take i ++ x :: l.drop i)[j] = l[j - 1]) := by
  have hlt : (l.take i).length = i := by rw [List.length_take]; omega
  have hlen : j < i + (1 + (l.length - i)) := by
    rw [List.length_append, List.length_cons, List.length_drop, hlt] at hj; omega
  refine ⟨fun h => ⟨by omega, ?_⟩, fun h => ?_, fun h => ⟨by omega, ?_⟩⟩
  · rw [List.getElem_append_left (by omega), List.getElem_take]
  · subst h
    rw [List.getElem_append_right (by omega)]
    simp [hlt]
  · rw [List.getElem_append_right (by omega)]
    have e : j - (l.take i).length = (j - i - 1) + 1 := by omega
    simp only [e, List.getElem_cons_succ, List.getElem_drop]
    congr 1; omega
theorem Mt.ins_len {l : List Int} {i : Nat} (x : Int) (hi : i ≤ l.length) : (l.take i ++ x :: l.drop i).length = l.length + 1 := by
  rw [List.length_append, List.length_cons, List.length_take, List.length_drop]; omega
set_option maxRecDepth 100000 in
set_option maxHeartbeats 1000000 in
/-- At the end. -/
theorem insertEnd_any {w : World} {g vb : Nat} {v : Value} {l : List Int} (x : Int) (h : IsRw 2 1 w g v l.length (tms l)) (hv : w.heap[vb]? = some (.cells #[.int .i64 x] 2)) (hn : l.length ≤ 1000) :
    Calls Try.prog 63 #[v, .int .i64 (l.length : Int), .slice (some ⟨vb, 0, none⟩) 1 1] w fun e w' => ∃ a m c g', e = .returned (.slice a m c) ∧ IsRw 2 1 w' g' (.slice a m c) (l ++ [x]).length (tms (l ++ [x])) ∧ (g' = g ∨ g' = w.heap.size) ∧ OnlyS [g] w w' := by
  obtain ⟨i0, hi, hz0, hz1, hz2⟩ := info_parts Try.infoI64
  have src : Src Try.prog i0.size 24 (.slice (some ⟨vb, 0, none⟩) 1 1) 1 (tms [x]) w :=
    Src.ofSlice w Try.underlying24 ⟨vb, 0, none⟩ 1 1 _ (by rw [hz1]; rfl) (fun j u hu => by
      rw [add_off, cell_of_row _ vb _ _ _ _ hv, Nat.zero_add]
      match j, hu with
      | 0, hu => simpa [tms] using hu
      | j + 1, hu => simp [tms] at hu) (tms_one _)
  obtain ⟨v', w', g', hrun, hrw, hg', ho⟩ := rw_append (T := 24) (tx := 24) Try.underlying24 hi hz0 hz1 hz2 rfl h (tms_one _) _ 1 (tms [x]) src (by omega) (by omega)
  obtain ⟨a', c', rfl⟩ := hrw.form
  have HR : Hid (IsRw 2 1 w' g' (.slice a' (l.length + 1) c') (l ++ [x]).length (tms (l ++ [x]))) := Lib.hid (by rw [List.length_append, List.length_singleton, tms_append]; exact hrw)
  have HG := Lib.hid hg'
  have HO := Lib.hid ho
  obtain ⟨a, c, rfl⟩ := h.form
  have hnc : l.length ≤ c := by
    rcases h.2 with ⟨h1, h2⟩ | ⟨off, cap, cur, h1, h2, h3, _⟩
    · injection h2 with e1 e2 e3; omega
    · injection h1 with e1 e2 e3; omega
  generalize l.length = n at *
  obtain ⟨aK, haK⟩ : ∃ aK, (if c = n then a else Option.map (fun x => x.add n) a) = aK := ⟨_, rfl⟩
  have d1 : ((n : Int) == (n : Int)) = true := beq_self_eq_true _
  have n0 : (0 : Int) ≤ (n : Int) := by omega
  clear h hv src hrw hg' ho hn
  go_enter Try.func63, Try.ntmps63
  go_wp2_with (refine wpList_append_run rfl (.tmp 23) (.tmp 24) 24 24 rfl (.slice a n c) (.slice (some ⟨vb, 0, none⟩) 1 1) rfl rfl hrun ?_; clear hrun)
  all_goals (go_ret; exact ⟨_, _, _, _, rfl, HR.out, HG.out, HO.out⟩)
theorem ins_arith {off i m j : Nat} (hm : m = 1) (h : i < j) : off + (i + m) + (j - 1 - i) = off + j := by omega
theorem ins_arith3 {i j n : Nat} (h : i < j) (hj : j < n + 1) : j - 1 - i < n - i := by omega
theorem ins_arith4 {off i j : Nat} (h : i < j) : off + i + 1 ≤ off + j := by omega
theorem ins_arith5 {i m j : Nat} (hm : m = 1) (h : i < j) : i + m + (j - 1 - i) = j := by omega
theorem ins_arith2 {i j : Nat} (h : i < j) : i + (j - 1 - i) = j - 1 := by omega
theorem Try.szI64 : (Try.prog.info? 2).map (·.size) = some 1 := by kernel_rfl
set_option maxRecDepth 100000 in
set_option maxHeartbeats 4000000 in
/-- Within, where there is room: in place. -/
theorem insertRoom_any {w : World} {g vb off cap i m : Nat} {l : List Int} {cur : Array Value} (x : Int) (hm : m = 1) (hg : w.heap[g]? = some (.cells cur 2 (0, 0))) (hle : l.length + 1 ≤ cap) (hsz : off + cap ≤ cur.size) (hc : ∀ j (hj : j < l.length), cur[off + j]? = some (.int .i64 l[j]))
    (hv : w.heap[vb]? = some (.cells #[.int .i64 x] 2)) (hne : vb ≠ g) (hi : i < l.length) (hn : l.length ≤ 1000) :
    Calls Try.prog 63 #[.slice (some ⟨g, off, none⟩) l.length cap, .int .i64 (i : Int), .slice (some ⟨vb, 0, none⟩) m 1] w fun e w' => e = .returned (.slice (some ⟨g, off, none⟩) (l.length + m) cap) ∧ IsRw 2 1 w' g (.slice (some ⟨g, off, none⟩) (l.length + 1) cap) (l.take i ++ x :: l.drop i).length (tms (l.take i ++ x :: l.drop i)) ∧ OnlyS [g] w w' := by
  have hdl : (tms (l.drop i)).length = l.length - i := by rw [tms_len, List.length_drop]
  have hgd : w.drew.heap[g]? = some (.cells cur 2 (0, 0)) := hg
  obtain ⟨cur1, e1, e2, e3, e4, e5⟩ := row_setCells g (tms (l.drop i)) (off + (i + m)) w.drew cur hgd (by rw [hdl]; omega)
  obtain ⟨W1, hW1⟩ : ∃ W1, W1 = w.drew.setCells g (off + (i + m)) (tms (l.drop i)) := ⟨_, rfl⟩
  rw [← hW1] at e1 e5
  obtain ⟨cur2, f1, f2, f3, f4, f5⟩ := row_setCells g (tms [x]) (off + i) W1 cur1 e1 (by rw [tms_len, e2]; simp; omega)
  have HFIN : Hid (IsRw 2 1 (W1.setCells g (off + i) (tms [x])) g (.slice (some ⟨g, off, none⟩) (l.length + 1) cap) (l.take i ++ x :: l.drop i).length (tms (l.take i ++ x :: l.drop i)) ∧ OnlyS [g] w (W1.setCells g (off + i) (tms [x]))) := Lib.hid (by
    have hlen := Mt.ins_len (l := l) (i := i) x (Nat.le_of_lt hi)
    refine ⟨?_, ((OnlyS.refl [g] w).drew.trans e5).trans f5⟩
    rw [← hlen]
    refine IsRw.make f1 (by omega) (by rw [f2, e2]; exact hsz) (fun j hj => ?_)
    obtain ⟨a1, a2, a3⟩ := Mt.ins_get (l := l) x (Nat.le_of_lt hi) j hj
    rw [hlen] at hj
    rcases Nat.lt_trichotomy j i with h | h | h
    · obtain ⟨hjl, e⟩ := a1 h
      rw [e, f3 _ (by omega), e3 _ (by omega)]
      exact hc j hjl
    · subst h
      rw [a2 rfl]
      have := f4 0 (by simp [tms])
      rw [Nat.add_zero] at this
      rw [this]; simp [tms]
    · obtain ⟨hjl, e⟩ := a3 h
      rw [e, f3 _ (.inr (by simp only [tms_len, List.length_singleton]; exact ins_arith4 h))]
      have := e4 (j - 1 - i) (by rw [hdl]; exact ins_arith3 h hj)
      rw [ins_arith hm h] at this
      rw [this]
      simp only [tms, List.getElem_map, List.getElem_drop, ins_arith2 h])
  have hov : ∀ lb cb, (callFunc 80 #[.slice (some ⟨vb, 0, none⟩) m 1, .slice (some ⟨g, off + (i + m), none⟩) lb cb]).run Try.prog w = .ok (.value (.bool false)) w := fun lb cb => by
    rw [run_callFunc_extern Try.func80 (by kernel_rfl) (by kernel_rfl) (by kernel_rfl) (e := Extern.SlicesOverlaps.overlaps #[24, 24] #[4]) (by kernel_rfl),
      Lib.run_overlaps_apart w 24 4 2 Try.underlying24 1 (fun _ => rfl) ⟨vb, 0, none⟩ ⟨g, off + (i + m), none⟩ m 1 lb cb hne 2 2 1 cur.size (by simp [World.shape?, hv]) (by simp [World.shape?, hg]) (by omega) (frozen_of_row _ _ _ _ _ hv) (frozen_of_row _ _ _ _ _ hv)]
    rfl
  have hcs : ∀ j v, (tms l)[j]? = some v → w.cell? ⟨g, off + j, none⟩ = some v := fun j v hj => by
    have hjl : j < l.length := by
      rcases Nat.lt_or_ge j l.length with h | h
      · exact h
      · rw [List.getElem?_eq_none (by rw [tms_len]; exact h)] at hj; cases hj
    rw [cell_of_row _ g _ cur 2 (0, 0) hg, hc j hjl, ← tms_get l j hjl, hj]
  have hsp : ∀ j, j < cap → (w.cell? ⟨g, off + j, none⟩).isSome = true := fun j hj => by
    rw [cell_of_row _ g _ cur 2 (0, 0) hg, Array.getElem?_eq_getElem (by omega)]; rfl
  have hcp1 : ∀ ty dc sc, (Builtin.copy_ #[24, 24] ty #[.slice (some ⟨g, off + (i + m), none⟩) (l.length + m - (i + m)) dc, .slice (some ⟨g, off + i, none⟩) (l.length + m - i) sc]).run Try.prog w.drew = .ok (goInt (tms (l.drop i)).length) W1 := fun ty dc sc => by
    rw [hW1]
    exact run_copy_cells w.drew _ _ ty 2 g (off + (i + m)) (l.length + m - (i + m)) dc ⟨g, off + i, none⟩ (l.length + m - i) sc (tms (l.drop i)) Try.underlying24 Try.szI64 (by rw [hdl]; simp only [Nat.min_def]; split <;> omega)
      (fun j v hj => by
        rw [add_off, Nat.add_assoc]
        refine hcs (i + j) v ?_
        rw [show tms (l.drop i) = (tms l).drop i by simp [tms], List.getElem?_drop] at hj
        exact hj)
      (fun j hj => by rw [Nat.add_assoc]; exact hsp _ (by omega)) (fun j hj => frozen_of_row _ _ _ _ _ hgd) (tms_one _)
  have hcp2 : ∀ (W : World), (∀ y, W.cell? y = W1.cell? y) → (∀ y, W.frozen? y = W1.frozen? y) → ∀ ty dc, (Builtin.copy_ #[24, 24] ty #[.slice (some ⟨g, off + i, none⟩) (l.length + m - i) dc, .slice (some ⟨vb, 0, none⟩) m 1]).run Try.prog W = .ok (goInt (tms [x]).length) (W.setCells g (off + i) (tms [x])) := fun W hWc hWf ty dc =>
    run_copy_cells W _ _ ty 2 g (off + i) (l.length + m - i) dc ⟨vb, 0, none⟩ m 1 (tms [x]) Try.underlying24 Try.szI64 (by simp only [tms_len, List.length_singleton, Nat.min_def]; split <;> omega)
      (fun j v hj => by
        have hj0 : j = 0 := by
          rcases Nat.eq_zero_or_pos j with h | h
          · exact h
          · rw [List.getElem?_eq_none (by simp [tms]; omega)] at hj; cases hj
        subst hj0
        rw [add_off, hWc]
        have hvW : W1.heap[vb]? = some (.cells #[.int .i64 x] 2) := (e5.block vb (lt_of_block hv) (by simpa using hne)).trans hv
        rw [cell_of_row _ vb _ _ _ _ hvW]
        simpa [tms] using hj)
      (fun j hj => by
        simp only [tms_len, List.length_singleton] at hj
        rw [hWc, cell_of_row _ g _ cur1 2 (0, 0) e1, Array.getElem?_eq_getElem (by omega)]; rfl)
      (fun j hj => by rw [hWf]; exact frozen_of_row _ _ _ _ _ e1) (tms_one _)
  have HM := Lib.hid hm
  have hm0 : 0 < m := by omega
  have hm1 : m ≤ 1 := by omega
  obtain ⟨n, hN⟩ : ∃ n, l.length = n := ⟨_, rfl⟩
  have HN := Lib.hid hN
  rw [hN] at hi hn hle hcp1 hcp2 hdl HFIN ⊢
  have hz1 : ¬ ((m : Int) = 0) := by omega
  have hz2 : ¬ ((i : Int) = (n : Int)) := by omega
  have hz3 : ¬ ((cap : Int) < (n : Int) + (m : Int)) := by omega
  have hb0 : (0 : Int) ≤ (n : Int) + (m : Int) := by omega
  have hb1 : (0 : Int) ≤ (i : Int) + (m : Int) := by omega
  have hin : i ≤ n := by omega
  have htn : ((i : Int) + (m : Int)).toNat = i + m := by omega
  have htm : ((n : Int) + (m : Int)).toNat = n + m := by omega
  have hb2 : ¬ (cap = i + m) := by omega
  have hb3 : (i : Int) ≤ (n : Int) + (m : Int) := by omega
  have hb4 : ¬ (cap = i) := by omega
  have hb5 : (n : Int) + (m : Int) ≤ (cap : Int) := by omega
  have hb6 : (i : Int) + (m : Int) ≤ (n : Int) + (m : Int) := by omega
  have hwr : ∀ a b : Nat, a ≤ 1000 → b ≤ 1 → IntKind.i64.wrap ((a : Int) + (b : Int)) = (a : Int) + (b : Int) ∧ wrap64 ((a : Int) + (b : Int)) = (a : Int) + (b : Int) := fun a b ha hb => ⟨by rw [IntKind.wrap_i64]; omega, by unfold wrap64; omega⟩
  have hi9 : i ≤ 1000 := by omega
  obtain ⟨hw1, hw2⟩ := hwr i m hi9 hm1
  obtain ⟨hw4, hw3⟩ := hwr n m hn hm1
  clear hwr hi9
  clear hm e1 e2 e3 e4 e5 f1 f2 f3 f4 f5 hgd hg hsz hc hv hne hcs hsp hdl hN hW1 hm1
  go_enter Try.func63, Try.ntmps63
  go_wp2_with (simp only [hov])
  have mixed : Try.prog.follows .mixedOrders = true := by kernel_rfl
  go_region_law_o (refine step_copy_runI rfl _ _ 24 24 rfl _ _ (by simp [Act.eval, Act.put]) (by simp [Act.eval, Act.put]) (hcp1 _ _ _) ?_)
  go_wp2_with (at_builtin; refine wpList_copy_runI _ rfl _ _ 24 24 rfl _ _ rfl rfl (hcp2 _ (fun _ => rfl) (fun _ => rfl) _ _) ?_)
  go_ret
  exact ⟨rfl, HFIN.out⟩
end Go.Proofs.Ytcijjblcoelabaa
