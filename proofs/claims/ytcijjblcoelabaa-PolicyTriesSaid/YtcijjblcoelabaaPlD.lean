/-
  Rows of times: what stores and appends do to them; copies; a state's copy; where a time belongs.
-/
import Derived.Test.YtcijjblcoelabaaPlC
import Derived.Lib.SliceRun
import Derived.Laws.IdiomCopy
set_option linter.unusedVariables false
set_option linter.unusedSimpArgs false
namespace Go.Proofs.Ytcijjblcoelabaa
open Go.RowKit Go.Shelf

theorem row_setCells {E : TypeId} (g : Nat) : ∀ (vs : List Value) (o : Nat) (w : World) (cur : Array Value), w.heap[g]? = some (.cells cur E (0, 0)) → o + vs.length ≤ cur.size →
    ∃ cur' : Array Value, (w.setCells g o vs).heap[g]? = some (.cells cur' E (0, 0)) ∧ cur'.size = cur.size ∧ (∀ k, k < o ∨ o + vs.length ≤ k → cur'[k]? = cur[k]?) ∧ (∀ j (hj : j < vs.length), cur'[o + j]? = some vs[j]) ∧ OnlyS [g] w (w.setCells g o vs)
  | [], o, w, cur, hg, _ => ⟨cur, hg, rfl, fun _ _ => rfl, fun j hj => absurd hj (by simp), OnlyS.refl _ _⟩
  | v :: r, o, w, cur, hg, hl => by
    have h1 := heap_setCell_same w g o cur E v hg
    obtain ⟨cur', e1, e2, e3, e4, e5⟩ := row_setCells g r (o + 1) (w.setCell ⟨g, o, none⟩ v) (cur.setIfInBounds o v) h1 (by simp only [List.length_cons] at hl; rw [Array.size_setIfInBounds]; omega)
    refine ⟨cur', e1, by rw [e2, Array.size_setIfInBounds], fun k hk => ?_, fun j hj => ?_, ((OnlyS.refl [g] w).setCell (by simp) v).trans e5⟩
    · simp only [List.length_cons] at hk
      rw [e3 k (by omega), Array.getElem?_setIfInBounds, if_neg (by omega)]
    · cases j with
      | zero =>
        rw [Nat.add_zero, e3 o (by omega), Array.getElem?_setIfInBounds, if_pos rfl]
        simp only [List.length_cons] at hl
        rw [if_pos (by omega)]; rfl
      | succ j =>
        have := e4 j (by simpa using hj)
        rw [show o + (j + 1) = o + 1 + j by omega, this]; rfl
/-- A store into a row. -/
theorem IsRw.set {E : TypeId} {w : World} {g off n cap : Nat} {xs : List Value} (h : IsRw E 1 w g (.slice (some ⟨g, off, none⟩) n cap) n xs) (j : Nat) (hj : j < n) (x : Value) :
    IsRw E 1 (w.setCell ⟨g, off + j, none⟩ x) g (.slice (some ⟨g, off, none⟩) n cap) n (xs.set j x) ∧ OnlyS [g] w (w.setCell ⟨g, off + j, none⟩ x) := by
  refine ⟨?_, (OnlyS.refl [g] w).setCell (by simp) x⟩
  obtain ⟨hl, h⟩ := h
  rcases h with ⟨h0, _⟩ | ⟨off2, cap2, cur, h1, h2, h3, h4, h5⟩
  · omega
  · obtain ⟨rfl, rfl⟩ : off = off2 ∧ cap = cap2 := by simpa using h1
    refine ⟨by rw [List.length_set]; exact hl, .inr ⟨off, cap, cur.setIfInBounds (off + j) x, rfl, heap_setCell_same w g _ cur E x h2, h3, by rw [Array.size_setIfInBounds]; exact h4, fun k hk => ?_⟩⟩
    rw [List.length_set] at hk
    rw [Array.getElem?_setIfInBounds, List.getElem_set]
    by_cases e : j = k
    · subst e
      rw [if_pos rfl, if_pos rfl, if_pos (by omega)]
    · rw [if_neg (by omega), if_neg e]; exact h5 k hk
theorem box3F_of {w : World} {b : Nat} {v0 v1 v2 : Value} {T : TypeId} (h : w.heap[b]? = some (.cells #[v0, v1, v2] T)) :
    (w.cell? ⟨b, 0, none⟩ = some v0 ∧ w.cell? ⟨b, 1, none⟩ = some v1 ∧ w.cell? ⟨b, 2, none⟩ = some v2) ∧ (w.frozen? ⟨b, 0, none⟩ = false ∧ w.frozen? ⟨b, 1, none⟩ = false ∧ w.frozen? ⟨b, 2, none⟩ = false) :=
  ⟨box3_of h, frozen_of_row _ _ _ _ _ h, frozen_of_row _ _ _ _ _ h, frozen_of_row _ _ _ _ _ h⟩
theorem set3_of {w : World} {b : Nat} {v0 v1 v2 : Value} {T : TypeId} (h : w.heap[b]? = some (.cells #[v0, v1, v2] T)) (u0 u1 u2 : Value) :
    (((w.setCell ⟨b, 0, none⟩ u0).setCell ⟨b, 1, none⟩ u1).setCell ⟨b, 2, none⟩ u2).heap[b]? = some (.cells #[u0, u1, u2] T) := by
  have h0 := heap_setCell_same w b 0 _ T u0 h
  have h1 := heap_setCell_same _ b 1 _ T u1 h0
  exact heap_setCell_same _ b 2 _ T u2 h1
theorem only3 {w : World} {b : Nat} (u0 u1 u2 : Value) : OnlyS [b] w (((w.setCell ⟨b, 0, none⟩ u0).setCell ⟨b, 1, none⟩ u1).setCell ⟨b, 2, none⟩ u2) := (((OnlyS.refl [b] w).setCell (by simp) _).setCell (by simp) _).setCell (by simp) _
/-- The form of a row's slice, where it has a block. -/
theorem IsRw.tm {w : World} {g : Nat} {v : Value} {l : List Int} (h : IsRw 2 1 w g v l.length (tms l)) : IsTm w v l := IsOwn.tm (base := g) ⟨g, Nat.le_refl _, h⟩
theorem own_catT {base : Nat} {w : World} {v : Value} {l1 : List Int} (h : IsOwn 2 1 base w v l1.length (tms l1)) (hbase : base ≤ w.heap.size) {x : Value} {l2 : List Int} (hx : IsTm w x l2) (hn : (l1.length + l2.length) * 8 ≤ 140737488355328) :
    ∃ a' c' w', (∀ ty, (Builtin.append_ #[24, 24] ty #[v, x]).run Try.prog w = .ok (.slice a' (l1.length + l2.length) c') w') ∧ IsOwn 2 1 base w' (.slice a' (l1.length + l2.length) c') (l1 ++ l2).length (tms (l1 ++ l2)) ∧ Below base w w' := by
  obtain ⟨i0, hi, hz0, hz1, hz2⟩ := info_parts Try.infoI64
  obtain ⟨g, hg, h⟩ := h
  obtain ⟨a, cap, rfl, hcap, hcell⟩ := hx
  have src : Src Try.prog i0.size 24 (.slice a l2.length cap) l2.length (tms l2) w := by
    rcases l2 with _ | ⟨y, r⟩
    · cases a with
      | none => exact Src.ofNil w Try.underlying24 cap
      | some p => exact Src.ofSlice w Try.underlying24 p 0 cap [] (by simp) (fun j u hu => by simp at hu) (by simp)
    · obtain ⟨b, off, e0, hbl, -⟩ := hcell.out 0 (by simp)
      subst e0
      refine Src.ofSlice w Try.underlying24 ⟨b, off, none⟩ _ cap _ (by rw [hz1, tms_len]; simp) (fun j u hu => ?_) (tms_one _)
      have hj : j < (y :: r).length := by
        rcases Nat.lt_or_ge j (y :: r).length with h | h
        · exact h
        · rw [List.getElem?_eq_none (by rw [tms_len]; exact h)] at hu; cases hu
      obtain ⟨b', off', e1, hbl', hc⟩ := hcell.out j hj
      cases e1
      rw [add_off, hc]
      rw [tms_get _ _ hj] at hu
      exact hu
  obtain ⟨v', w', g', hrun, hrw, hg', ho⟩ := rw_append (T := 24) (tx := 24) Try.underlying24 hi hz0 hz1 hz2 rfl h (tms_one _) _ l2.length (tms l2) src (by omega) (by omega)
  obtain ⟨a', c', rfl⟩ := hrw.form
  refine ⟨a', c', w', hrun, ⟨g', ?_, by rw [List.length_append, tms_append]; exact hrw⟩, ho.toBelow (by simpa using hg) hbase⟩
  rcases hg' with rfl | rfl
  · exact hg
  · exact hbase
/-- One time more. -/
theorem own_pushT {base : Nat} {w : World} {v : Value} {l : List Int} (h : IsOwn 2 1 base w v l.length (tms l)) (hbase : base ≤ w.heap.size) (x : Int) (hn : (l.length + 1) * 8 ≤ 140737488355328) :
    ∃ a' c' w', (∀ ty, (Builtin.append_ #[24, 24] ty #[v, .slice (some ⟨w.heap.size, 0, none⟩) 1 1]).run Try.prog (w.alloc (.cells #[.int .i64 x] 2)) = .ok (.slice a' (l.length + 1) c') w') ∧ IsOwn 2 1 base w' (.slice a' (l.length + 1) c') (l ++ [x]).length (tms (l ++ [x])) ∧ Below base w w' := by
  obtain ⟨i0, hi, hz0, hz1, hz2⟩ := info_parts Try.infoI64
  obtain ⟨a', c', w', h1, h2, h3⟩ := own_push (T := 24) (tx := 24) Try.underlying24 Try.underlying24 hi hz0 hz1 hz2 rfl h hbase (tms_one _) #[.int .i64 x] rfl (by simp [Value.oneCell']) hn (by omega)
  exact ⟨a', c', w', h1, by rw [List.length_append, List.length_singleton, tms_append]; exact h2, h3⟩
set_option maxRecDepth 100000 in
theorem clone23_any {w : World} {v : Value} {l : List Int} (h : IsTm w v l) (hn : l.length * 8 ≤ 140737488355328) :
    Calls Try.prog 60 #[v] w fun e w' => ∃ a n c, e = .returned (.slice a n c) ∧ IsOwn 2 1 w.heap.size w' (.slice a n c) l.length (tms l) ∧ Below w.heap.size w w' := by
  obtain ⟨a, cap, rfl, hcap, HC⟩ := id h
  cases a with
  | none =>
    have hl : l = [] := by
      cases l with
      | nil => rfl
      | cons x r => obtain ⟨b, off, e, _⟩ := HC.out 0 (by simp); cases e
    subst hl
    have he : ∀ u : World, (binOp .eql 24 (.slice none 0 cap) (.slice none 0 0)).run Try.prog u = .ok (.bool true) u := fun _ => rfl
    clear h HC hcap
    go_enter Try.func60, Try.ntmps60
    go_wp2_with fail
    all_goals (go_ret; exact ⟨_, _, _, rfl, IsOwn.nil _ _ _ _, Below.refl _ _⟩)
  | some x =>
    have hb : Below w.heap.size w (w.alloc (.cells #[] 2)) := (Below.refl _ w).alloc (Nat.le_refl _) _
    have hx : (w.alloc (.cells #[] 2)).heap[w.heap.size]? = some (.cells #[] 2) := heap_alloc_new w _
    have hoa : IsOwn 2 1 w.heap.size (w.alloc (.cells #[] 2)) (.slice (some ⟨w.heap.size, 0, none⟩) 0 0) ([] : List Int).length (tms []) := ⟨w.heap.size, Nat.le_refl _, rfl, .inr ⟨0, 0, #[], rfl, hx, Nat.le_refl _, Nat.le_refl _, fun j hj => absurd hj (by simp [tms])⟩⟩
    obtain ⟨a6, c6, w6, hrun, own6, hb6⟩ := own_catT hoa hb.size (h.below hb) (by simp; omega)
    simp only [List.length_nil, Nat.zero_add, List.nil_append] at hrun own6
    have HO := Lib.hid own6
    have HB := Lib.hid (hb.trans hb6)
    clear h HC hcap hb hx hoa own6 hb6
    have he : ∀ u : World, (binOp .eql 24 (.slice (some x) l.length cap) (.slice none 0 0)).run Try.prog u = .ok (.bool false) u := fun _ => rfl
    generalize l.length = n at *
    go_enter Try.func60, Try.ntmps60
    go_wp2_with (refine wpList_append_run rfl (.tmp 5) (.tmp 6) 24 24 rfl (.slice (some ⟨w.heap.size, 0, none⟩) 0 0) (.slice (some x) n cap) rfl rfl hrun ?_; clear hrun)
    all_goals (go_ret; exact ⟨_, _, _, rfl, HO.out, HB.out⟩)
set_option maxRecDepth 100000 in
theorem copied23_any {w : World} {v : Value} {s : Mt.Ps} (hv : IsTm w v s.fails) (hn : s.fails.length * 8 ≤ 140737488355328) : Calls Try.prog 38 #[stV v s] w fun e w' => ∃ a n c, e = .returned (stV (.slice a n c) s) ∧ IsOwn 2 1 w.heap.size w' (.slice a n c) s.fails.length (tms s.fails) ∧ Below w.heap.size w w' := by
  obtain ⟨l, lk, ch⟩ := s
  simp only at hv hn ⊢
  obtain ⟨w1, hw1⟩ : ∃ u, w.alloc (.cells #[v, .int .i64 lk, .int .i64 ch] 26) = u := ⟨_, rfl⟩
  have hA : Below w.heap.size w w1 := by rw [← hw1]; exact (Below.refl _ w).alloc (Nat.le_refl _) _
  have hx : w1.heap[w.heap.size]? = some (.cells #[v, .int .i64 lk, .int .i64 ch] 26) := by rw [← hw1]; exact heap_alloc_new w _
  have hs1 : w1.heap.size = w.heap.size + 1 := by rw [← hw1]; simp
  obtain ⟨w2, hw2⟩ : ∃ u, w1.alloc (.cells #[.slice none 0 0, .int .i64 0, .int .i64 0] 26) = u := ⟨_, rfl⟩
  have hA2 : Below w1.heap.size w1 w2 := by rw [← hw2]; exact (Below.refl _ w1).alloc (Nat.le_refl _) _
  have hx2 : w2.heap[w1.heap.size]? = some (.cells #[.slice none 0 0, .int .i64 0, .int .i64 0] 26) := by rw [← hw2]; exact heap_alloc_new w1 _
  have hx3 : w2.heap[w.heap.size]? = some (.cells #[v, .int .i64 lk, .int .i64 ch] 26) := (hA2.block _ (by omega)).trans hx
  have hAA : Below w.heap.size w w2 := hA.trans (hA2.mono hA.size)
  have HC := Lib.hid (clone23_any (hv.below hAA) hn)
  obtain ⟨a, cap, rfl, hcap, -⟩ := hv
  unfold stV
  simp only
  obtain ⟨n, hN⟩ : ∃ n, l.length = n := ⟨_, rfl⟩
  rw [hN] at HC hx hx3 hw1 ⊢
  obtain ⟨q0, q1, q2⟩ := box3_of hx3
  have HB2 := Lib.hid hAA
  have HX2 := Lib.hid hx2
  have HX3 := Lib.hid hx3
  have hsz : w2.heap.size = w.heap.size + 2 := by rw [← hw2]; simp [hs1]
  have HSZ := Lib.hid hsz
  rw [hs1] at HX2
  clear hx hx2 hx3 hA hA2 hAA hs1 hsz hcap
  clear hN
  go_enter Try.func38, Try.ntmps38
  go_wp2_with fail
  refine (HC.out).mono ?_
  rintro e w3 ⟨a', n', c', rfl, how, hb⟩
  have hlt : w.heap.size < w2.heap.size := by have := HSZ.out; omega
  have hlt1 : w.heap.size + 1 < w2.heap.size := by have := HSZ.out; omega
  have r0 := (hb.block _ hlt).trans HX3.out
  have r1 := (hb.block _ hlt1).trans HX2.out
  have HOW := Lib.hid how
  have HB3 := Lib.hid (HB2.out.trans (hb.mono HB2.out.size))
  have r0' := heap_setCell_same w3 w.heap.size 0 _ 26 (.slice a' n' c') r0
  have r1' : (w3.setCell ⟨w.heap.size, 0, none⟩ (.slice a' n' c')).heap[w.heap.size + 1]? = _ := (heap_setCell_other w3 _ _ _ (fun h => by have : w.heap.size + 1 = w.heap.size := h; omega)).trans r1
  have hO4 : OnlyS [w.heap.size, w.heap.size + 1] w3 (w3.setCell ⟨w.heap.size, 0, none⟩ (.slice a' n' c')) := (OnlyS.refl _ w3).setCell (by simp) _
  have hs1 : w1.heap.size = w.heap.size + 1 := by rw [← hw1]; simp
  have HS1 := Lib.hid hs1
  clear q0 q1 q2 hb
  obtain ⟨⟨q0, q1, q2⟩, f0, f1, f2⟩ := box3F_of r0
  obtain ⟨⟨p0, p1, p2⟩, g0, g1, g2⟩ := box3F_of r0'
  have r5 := set3_of r1' (.slice a' n' c') (.int .i64 lk) (.int .i64 ch)
  have hO5 := hO4.trans ((only3 (b := w.heap.size + 1) (.slice a' n' c') (.int .i64 lk) (.int .i64 ch)).mono (T := [w.heap.size, w.heap.size + 1]) (fun k hk => by simp at hk; simp [hk]))
  rw [← hs1] at r1' r5 hO5
  obtain ⟨⟨y0, y1, y2⟩, z0, z1, z2⟩ := box3F_of r1'
  have HR5 := Lib.hid r5
  have HO5 := Lib.hid hO5
  clear how r0 r1 r0' r1' hlt hlt1 hO4 hs1 r5 hO5
  go_wp2_with fail
  generalize ((((w3.setCell ⟨w.heap.size, 0, none⟩ (.slice a' n' c')).setCell ⟨w1.heap.size, 0, none⟩ (.slice a' n' c')).setCell ⟨w1.heap.size, 1, none⟩ (.int .i64 lk)).setCell ⟨w1.heap.size, 2, none⟩ (.int .i64 ch)) = w5 at *
  obtain ⟨x0, x1, x2⟩ := box3_of HR5.out
  have hfin := HO5.out
  have hsz := HSZ.out
  have hown : IsOwn 2 1 w.heap.size w5 (.slice a' n' c') n (tms l) := by
    obtain ⟨g, hg, h⟩ := HOW.out
    refine ⟨g, by omega, h.other HO5.out ?_⟩
    have := HS1.out
    simp; omega
  have hbel : Below w.heap.size w w5 := HB3.out.trans (hfin.toBelow (fun k hk => by have := HS1.out; simp at hk; omega) HB3.out.size)
  exact post_cell rfl _ _ rfl rfl (load3 x0 x1 x2 Try.underlying26 Try.szPSt) ⟨_, _, _, rfl, hown, hbel⟩
set_option maxRecDepth 100000 in
theorem isLocked23_any {v : Value} (s : Mt.Ps) (p : Mt.Po) (now : Int) (w : World) (hnow : Mt.isT now = true) (hlk : s.locked = -1 ∨ Mt.isT s.locked = true) (hfm : ∃ a n c, v = .slice a n c) :
    Calls Try.prog 39 #[stV v s, poV p, .int .i64 now] w fun e w' => e = .returned (.bool (Mt.lockedB p s now)) ∧ Below w.heap.size w w' := by
  obtain ⟨va, vn, vc, rfl⟩ := hfm
  obtain ⟨l, lk, ch⟩ := s
  obtain ⟨f, wi, lo, ag⟩ := p
  unfold stV poV Mt.lockedB
  simp only at hlk ⊢
  rw [Mt.isT_iff] at hnow
  have hl2 : -1 ≤ lk ∧ lk ≤ 9007199254740991 := by
    rcases hlk with h | h
    · omega
    · rw [Mt.isT_iff] at h; omega
  obtain ⟨w1, hw1⟩ : ∃ u, w.alloc (.cells #[.slice va vn vc, .int .i64 lk, .int .i64 ch] 26) = u := ⟨_, rfl⟩
  have hA : Below w.heap.size w w1 := by rw [← hw1]; exact (Below.refl _ w).alloc (Nat.le_refl _) _
  have hx : w1.heap[w.heap.size]? = some (.cells #[.slice va vn vc, .int .i64 lk, .int .i64 ch] 26) := by rw [← hw1]; exact heap_alloc_new w _
  obtain ⟨w2, hw2⟩ : ∃ u, w1.alloc (.cells #[.int .i64 f, .int .i64 wi, .int .i64 lo, .int .i64 ag] 23) = u := ⟨_, rfl⟩
  have hA2 : Below w1.heap.size w1 w2 := by rw [← hw2]; exact (Below.refl _ w1).alloc (Nat.le_refl _) _
  have hx2 : w2.heap[w1.heap.size]? = some (.cells #[.int .i64 f, .int .i64 wi, .int .i64 lo, .int .i64 ag] 23) := by rw [← hw2]; exact heap_alloc_new w1 _
  have hx3 : w2.heap[w.heap.size]? = some (.cells #[.slice va vn vc, .int .i64 lk, .int .i64 ch] 26) := (hA2.block _ (lt_of_block hx)).trans hx
  have HB := Lib.hid (hA.trans (hA2.mono hA.size))
  obtain ⟨q0, q1, q2⟩ := box3_of hx3
  obtain ⟨p0, p1, p2, p3⟩ := box4_of hx2
  clear hx hx2 hx3 hA hA2
  have hwr : wrap64 (now - lk) = now - lk := by unfold wrap64; omega
  obtain ⟨z, hz⟩ : ∃ z, decide (now - lk < lo) = z := ⟨_, rfl⟩
  rw [hz]
  by_cases hk : lk = -1
  · subst hk
    go_enter Try.func39, Try.ntmps39
    go_wp2_with fail
    all_goals (go_ret; exact ⟨rfl, HB.out⟩)
  · have k1 : (lk == -1) = false := by simpa using hk
    have k2 : (lk != -1) = true := by simpa using hk
    rw [decide_eq_false hk]
    by_cases h0 : lo = 0
    · subst h0
      go_enter Try.func39, Try.ntmps39
      go_wp2_with fail
      all_goals (go_ret; exact ⟨by simp, HB.out⟩)
    · have m1 : (lo == 0) = false := by simpa using h0
      have m2 : decide (lo = 0) = false := decide_eq_false h0
      rw [m2]
      clear hk h0
      go_enter Try.func39, Try.ntmps39
      go_wp2_with fail
      all_goals (go_ret; exact ⟨by simp, HB.out⟩)
theorem to23_any {v : Value} (s : Mt.Ps) (w : World) (hfm : ∃ a n c, v = .slice a n c) : Calls Try.prog 15 #[stV v s] w fun e w' => e = .returned (stV v s) ∧ Below w.heap.size w w' := by
  obtain ⟨va, vn, vc, rfl⟩ := hfm
  obtain ⟨l, lk, ch⟩ := s
  unfold stV
  simp only
  obtain ⟨w1, hw1⟩ : ∃ u, w.alloc (.cells #[.slice va vn vc, .int .i64 lk, .int .i64 ch] 26) = u := ⟨_, rfl⟩
  have hA : Below w.heap.size w w1 := by rw [← hw1]; exact (Below.refl _ w).alloc (Nat.le_refl _) _
  have hx : w1.heap[w.heap.size]? = some (.cells #[.slice va vn vc, .int .i64 lk, .int .i64 ch] 26) := by rw [← hw1]; exact heap_alloc_new w _
  obtain ⟨w2, hw2⟩ : ∃ u, w1.alloc (.cells #[.slice va vn vc, .int .i64 lk, .int .i64 ch] 34) = u := ⟨_, rfl⟩
  have hA2 : Below w1.heap.size w1 w2 := by rw [← hw2]; exact (Below.refl _ w1).alloc (Nat.le_refl _) _
  have hx2 : w2.heap[w1.heap.size]? = some (.cells #[.slice va vn vc, .int .i64 lk, .int .i64 ch] 34) := by rw [← hw2]; exact heap_alloc_new w1 _
  have HB := Lib.hid (hA.trans (hA2.mono hA.size))
  have hs1 : w1.heap.size = w.heap.size + 1 := by rw [← hw1]; simp
  obtain ⟨p0, p1, p2⟩ := box3_of hx2
  obtain ⟨w3, hw3⟩ : ∃ u, w1.alloc (.cells #[.slice none 0 0, .int .i64 0, .int .i64 0] 34) = u := ⟨_, rfl⟩
  have hA3 : Below w1.heap.size w1 w3 := by rw [← hw3]; exact (Below.refl _ w1).alloc (Nat.le_refl _) _
  have hx3 : w3.heap[w.heap.size]? = some (.cells #[.slice va vn vc, .int .i64 lk, .int .i64 ch] 26) := (hA3.block _ (lt_of_block hx)).trans hx
  have hx4 : w3.heap[w1.heap.size]? = some (.cells #[.slice none 0 0, .int .i64 0, .int .i64 0] 34) := by rw [← hw3]; exact heap_alloc_new w1 _
  obtain ⟨q0, q1, q2⟩ := box3_of hx3
  obtain ⟨⟨y0, y1, y2⟩, z0, z1, z2⟩ := box3F_of hx4
  have HS := Lib.hid (set3_of hx4 (.slice va vn vc) (.int .i64 lk) (.int .i64 ch))
  have HO := Lib.hid (only3 (w := w3) (b := w1.heap.size) (.slice va vn vc) (.int .i64 lk) (.int .i64 ch))
  have HB3 := Lib.hid (hA.trans (hA3.mono hA.size))
  have HL := Lib.hid hA.size
  clear hx hx2 hx3 hx4 hA hA2 hA3 hs1 hw2 p0 p1 p2
  go_enter Try.func15, Try.ntmps15
  go_wp2_with fail
  generalize (((w3.setCell ⟨w1.heap.size, 0, none⟩ (.slice va vn vc)).setCell ⟨w1.heap.size, 1, none⟩ (.int .i64 lk)).setCell ⟨w1.heap.size, 2, none⟩ (.int .i64 ch)) = w5 at *
  obtain ⟨x0, x1, x2⟩ := box3_of HS.out
  exact post_cell rfl _ _ rfl rfl (load3 x0 x1 x2 Try.underlying34 Try.szRSt) ⟨rfl, HB3.out.trans (HO.out.toBelow (fun k hk => by simp at hk; have := HL.out; omega) HB3.out.size)⟩
end Go.Proofs.Ytcijjblcoelabaa
