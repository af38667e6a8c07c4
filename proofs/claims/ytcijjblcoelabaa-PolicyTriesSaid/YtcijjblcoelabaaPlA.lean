/-
  Policies and states in memory; times, and whether a policy may be.
-/
import Derived.Test.YtcijjblcoelabaaPlMath
import Derived.Test.YtcijjblcoelabaaGp
import Derived.Deep.RegionHeld3
import Derived.Deep.RegionLaw
import Derived.Deep.Cut
import Derived.Deep.QuietTactic
import Derived.BigQuiet
import Derived.Handy
import Derived.Laws.ResultCell
set_option linter.unusedVariables false
set_option linter.unusedSimpArgs false
namespace Go.Proofs.Ytcijjblcoelabaa
open Go.RowKit

/-- The cells of times. -/
def tms (l : List Int) : List Value := l.map (Value.int .i64)
theorem tms_len (l : List Int) : (tms l).length = l.length := by simp [tms]
theorem tms_append (a b : List Int) : tms (a ++ b) = tms a ++ tms b := by simp [tms]
theorem tms_one (l : List Int) : ∀ u ∈ tms l, u.oneCell' = true := by
  intro u hu; simp only [tms, List.mem_map] at hu; obtain ⟨x, _, rfl⟩ := hu; rfl
theorem tms_get (l : List Int) (j : Nat) (h : j < l.length) : (tms l)[j]? = some (.int .i64 l[j]) := by simp [tms, h]
theorem Try.infoI64 : (Try.prog.info? 2).map (fun i => (i.zero, i.size, i.bytes)) = some (some (.int .i64 0), 1, 8) := by kernel_rfl
/-- Times in a slice. -/
def IsTm (w : World) (v : Value) (l : List Int) : Prop := ∃ a cap, v = .slice a l.length cap ∧ l.length ≤ cap ∧ Hid (∀ j (hj : j < l.length), ∃ b off, a = some ⟨b, off, none⟩ ∧ b < w.heap.size ∧ w.cell? ⟨b, off + j, none⟩ = some (.int .i64 l[j]))
section
variable {w u : World} {v : Value} {l : List Int}
theorem IsTm.below (h : IsTm w v l) (hb : Below w.heap.size w u) : IsTm u v l := by
  obtain ⟨a, cap, e, hc, h⟩ := h
  refine ⟨a, cap, e, hc, Lib.hid fun j hj => ?_⟩
  obtain ⟨b, off, h0, h1, h2⟩ := h.out j hj
  exact ⟨b, off, h0, Nat.lt_of_lt_of_le h1 hb.size, (hb.cell (p := ⟨b, _, none⟩) h1).trans h2⟩
theorem IsTm.nil (w : World) : IsTm w (.slice none 0 0) [] := ⟨none, 0, rfl, by simp, Lib.hid fun j hj => absurd hj (by simp)⟩
theorem IsOwn.tm {base : Nat} (h : IsOwn 2 1 base w v l.length (tms l)) : IsTm w v l := by
  obtain ⟨g, _, hl, h⟩ := h
  rcases h with ⟨h0, rfl⟩ | ⟨off, cap, cur, rfl, h2, h3, h4, h5⟩
  · have : l = [] := List.eq_nil_of_length_eq_zero h0
    subst this
    exact IsTm.nil w
  · refine ⟨_, cap, rfl, h3, Lib.hid fun j hj => ⟨g, off, rfl, lt_of_block h2, ?_⟩⟩
    rw [cell_of_row w g _ cur 2 (0, 0) h2, h5 j (by rw [tms_len]; exact hj)]
    simp [tms]
end
theorem box3_of {w : World} {b : Nat} {v0 v1 v2 : Value} {T : TypeId} (h : w.heap[b]? = some (.cells #[v0, v1, v2] T)) :
    w.cell? ⟨b, 0, none⟩ = some v0 ∧ w.cell? ⟨b, 1, none⟩ = some v1 ∧ w.cell? ⟨b, 2, none⟩ = some v2 :=
  ⟨by rw [cell_of_row _ _ _ _ _ _ h]; rfl, by rw [cell_of_row _ _ _ _ _ _ h]; rfl, by rw [cell_of_row _ _ _ _ _ _ h]; rfl⟩
theorem box4_of {w : World} {b : Nat} {v0 v1 v2 v3 : Value} {T : TypeId} (h : w.heap[b]? = some (.cells #[v0, v1, v2, v3] T)) :
    w.cell? ⟨b, 0, none⟩ = some v0 ∧ w.cell? ⟨b, 1, none⟩ = some v1 ∧ w.cell? ⟨b, 2, none⟩ = some v2 ∧ w.cell? ⟨b, 3, none⟩ = some v3 :=
  ⟨by rw [cell_of_row _ _ _ _ _ _ h]; rfl, by rw [cell_of_row _ _ _ _ _ _ h]; rfl, by rw [cell_of_row _ _ _ _ _ _ h]; rfl, by rw [cell_of_row _ _ _ _ _ _ h]; rfl⟩
/-- A struct of three cells as the result. -/
theorem load3 {T : TypeId} {fs : _} {w : World} {b : Nat} {v0 v1 v2 : Value} (q0 : w.cell? ⟨b, 0, none⟩ = some v0) (q1 : w.cell? ⟨b, 1, none⟩ = some v1) (q2 : w.cell? ⟨b, 2, none⟩ = some v2)
    (hu : Try.prog.underlying T = some (.struct fs)) (hi : (Try.prog.info? T).map (·.size) = some 3) : (loadVar T ⟨b, 0, none⟩).run Try.prog w = .ok (.agg #[v0, v1, v2]) w :=
  run_loadVar_cells w T ⟨b, 0, none⟩ #[v0, v1, v2] (.struct fs) (fun j v hv => by
    rw [add_off, Nat.zero_add]
    match j, hv with
    | 0, hv => obtain rfl : v0 = v := by simpa using hv
               exact q0
    | 1, hv => obtain rfl : v1 = v := by simpa using hv
               exact q1
    | 2, hv => obtain rfl : v2 = v := by simpa using hv
               exact q2
    | j + 3, hv => simp at hv) hu rfl hi
theorem post_cell {P : Program} {fn : Func} {R : Ending → World → Prop} {a : Act} {w : World} {p : Tmp} {ty : TypeId} (h : fn.results = #[.cell p ty]) (g : Nat) (v : Value)
    (hd : a.defers = []) (hp : a.tmps.getD p undef = .pointer (some ⟨g, 0, none⟩)) (hl : (loadVar ty ⟨g, 0, none⟩).run P w = .ok v w) (hR : R (.returned v) w) : bodyPost P fn R .ret a w := by
  refine bodyPost_ret ?_ hd hR
  have hp' : a.tmps[p]?.getD undef = .pointer (some ⟨g, 0, none⟩) := by simpa using hp
  simp [results, h, hp', asAddr, hl]
theorem post_cell2 {P : Program} {fn : Func} {R : Ending → World → Prop} {a : Act} {w : World} {p u : Tmp} {ty : TypeId} (h : fn.results = #[.cell p ty, .tmp u]) (g : Nat) (v x : Value)
    (hd : a.defers = []) (hp : a.tmps.getD p undef = .pointer (some ⟨g, 0, none⟩)) (hx : a.tmps.getD u undef = x) (hl : (loadVar ty ⟨g, 0, none⟩).run P w = .ok v w) (hR : R (.returned (.tuple #[v, x])) w) : bodyPost P fn R .ret a w := by
  refine bodyPost_ret ?_ hd hR
  rw [results_cell_tmp h, hp, hx]
  simp [asAddr, hl, Result.andThen]
theorem Try.szPSt : (Try.prog.info? 26).map (·.size) = some 3 := by kernel_rfl
theorem Try.szRSt : (Try.prog.info? 34).map (·.size) = some 3 := by kernel_rfl
def poV (p : Mt.Po) : Value := .agg #[.int .i64 p.fails, .int .i64 p.window, .int .i64 p.lock, .int .i64 p.age]
def stV (v : Value) (s : Mt.Ps) : Value := .agg #[v, .int .i64 s.locked, .int .i64 s.changed]

theorem isTime_any (n : Int) (w : World) : Calls Try.prog 33 #[.int .i64 n] w fun e w' => e = .returned (.bool (Mt.isT n)) ∧ w' = w := by
  unfold Mt.isT
  by_cases h0 : 0 ≤ n
  · by_cases h1 : n ≤ 9007199254740991
    · rw [decide_eq_true h0, decide_eq_true h1]
      go_enter Try.func33, Try.ntmps33
      go_wp2_with fail
      all_goals (go_ret; exact ⟨rfl, rfl⟩)
    · rw [decide_eq_true h0, decide_eq_false h1]
      go_enter Try.func33, Try.ntmps33
      go_wp2_with fail
      all_goals (go_ret; exact ⟨rfl, rfl⟩)
  · rw [decide_eq_false h0]
    go_enter Try.func33, Try.ntmps33
    go_wp2_with fail
    all_goals (go_ret; exact ⟨by simp, rfl⟩)
theorem time23_any (n : Int) (w : World) : Calls Try.prog 34 #[.int .i64 n] w fun e w' => e = .returned (.bool (Mt.isT n)) ∧ w' = w := by
  unfold Mt.isT
  by_cases h0 : 0 ≤ n
  · by_cases h1 : n ≤ 9007199254740991
    · rw [decide_eq_true h0, decide_eq_true h1]
      go_enter Try.func34, Try.ntmps34
      go_wp2_with fail
      all_goals (go_ret; exact ⟨rfl, rfl⟩)
    · rw [decide_eq_true h0, decide_eq_false h1]
      go_enter Try.func34, Try.ntmps34
      go_wp2_with fail
      all_goals (go_ret; exact ⟨rfl, rfl⟩)
  · rw [decide_eq_false h0]
    go_enter Try.func34, Try.ntmps34
    go_wp2_with fail
    all_goals (go_ret; exact ⟨by simp, rfl⟩)
theorem new23_any (n : Int) (w : World) : Calls Try.prog 19 #[.int .i64 n] w fun e w' => e = .returned (stV (.slice none 0 0) (Mt.newS n)) ∧ Below w.heap.size w w' := by
  unfold stV Mt.newS
  obtain ⟨w1, hw1⟩ : ∃ u, w.alloc (.cells #[.slice none 0 0, .int .i64 (-1), .int .i64 n] 26) = u := ⟨_, rfl⟩
  have HA : Hid (Below w.heap.size w w1) := Lib.hid (by rw [← hw1]; exact (Below.refl _ w).alloc (Nat.le_refl _) _)
  have hx : w1.heap[w.heap.size]? = some (.cells #[.slice none 0 0, .int .i64 (-1), .int .i64 n] 26) := by rw [← hw1]; exact heap_alloc_new w _
  obtain ⟨q0, q1, q2⟩ := box3_of hx
  clear hx
  go_enter Try.func19, Try.ntmps19
  go_wp2_with fail
  exact post_cell rfl _ _ rfl rfl (load3 q0 q1 q2 Try.underlying26 Try.szPSt) ⟨rfl, HA.out⟩
set_option maxRecDepth 100000 in
theorem check23_any (p : Mt.Po) (w : World) : Calls Try.prog 11 #[poV p] w fun e w' => e = .returned (.int .i64 (if Mt.okPo p = true then 0 else 2)) ∧ Below w.heap.size w w' := by
  have HT := Lib.hid (fun (n : Int) (u : World) => isTime_any n u)
  obtain ⟨f, wi, lo, ag⟩ := p
  unfold poV Mt.okPo
  simp only
  obtain ⟨w1, hw1⟩ : ∃ u, w.alloc (.cells #[.int .i64 f, .int .i64 wi, .int .i64 lo, .int .i64 ag] 23) = u := ⟨_, rfl⟩
  have HA : Hid (Below w.heap.size w w1) := Lib.hid (by rw [← hw1]; exact (Below.refl _ w).alloc (Nat.le_refl _) _)
  have hx : w1.heap[w.heap.size]? = some (.cells #[.int .i64 f, .int .i64 wi, .int .i64 lo, .int .i64 ag] 23) := by rw [← hw1]; exact heap_alloc_new w _
  obtain ⟨q0, q1, q2, q3⟩ := box4_of hx
  clear hx
  have HW := Lib.hid (HT.out wi w1)
  have HL := Lib.hid (HT.out lo w1)
  have HG := Lib.hid (HT.out ag w1)
  generalize Mt.isT wi = bw at *
  generalize Mt.isT lo = bl at *
  generalize Mt.isT ag = bg at *
  by_cases h0 : 0 ≤ f
  · have e0 : decide (f < 0) = false := decide_eq_false (by omega)
    by_cases h1 : f ≤ 100
    · have e1 : decide (100 < f) = false := decide_eq_false (by omega)
      rw [decide_eq_true h0, decide_eq_true h1]
      cases bw <;> cases bl <;> cases bg
      all_goals
        go_enter Try.func11, Try.ntmps11
        go_wp2_with (first
          | (go_at_call 33; with_reducible refine (HW.out).mono ?_; rintro e w' ⟨rfl, rfl⟩)
          | (go_at_call 33; with_reducible refine (HL.out).mono ?_; rintro e w' ⟨rfl, rfl⟩)
          | (go_at_call 33; with_reducible refine (HG.out).mono ?_; rintro e w' ⟨rfl, rfl⟩))
        all_goals (go_ret; exact ⟨rfl, HA.out⟩)
    · have e1 : decide (100 < f) = true := decide_eq_true (by omega)
      rw [decide_eq_true h0, decide_eq_false h1]
      go_enter Try.func11, Try.ntmps11
      go_wp2_with fail
      all_goals (go_ret; exact ⟨rfl, HA.out⟩)
  · have e0 : decide (f < 0) = true := decide_eq_true (by omega)
    rw [decide_eq_false h0]
    go_enter Try.func11, Try.ntmps11
    go_wp2_with fail
    all_goals (go_ret; exact ⟨rfl, HA.out⟩)
set_option maxRecDepth 100000 in
theorem rcheck23_any (p : Mt.Po) (w : World) : Calls Try.prog 12 #[poV p] w fun e w' => e = .returned (.int .i64 (if Mt.okPo p = true then 0 else 2)) ∧ Below w.heap.size w w' := by
  have HT := Lib.hid (fun (n : Int) (u : World) => time23_any n u)
  obtain ⟨f, wi, lo, ag⟩ := p
  unfold poV Mt.okPo
  simp only
  obtain ⟨w1, hw1⟩ : ∃ u, w.alloc (.cells #[.int .i64 f, .int .i64 wi, .int .i64 lo, .int .i64 ag] 23) = u := ⟨_, rfl⟩
  have HA : Hid (Below w.heap.size w w1) := Lib.hid (by rw [← hw1]; exact (Below.refl _ w).alloc (Nat.le_refl _) _)
  have hx : w1.heap[w.heap.size]? = some (.cells #[.int .i64 f, .int .i64 wi, .int .i64 lo, .int .i64 ag] 23) := by rw [← hw1]; exact heap_alloc_new w _
  obtain ⟨q0, q1, q2, q3⟩ := box4_of hx
  clear hx
  have HW := Lib.hid (HT.out wi w1)
  have HL := Lib.hid (HT.out lo w1)
  have HG := Lib.hid (HT.out ag w1)
  generalize Mt.isT wi = bw at *
  generalize Mt.isT lo = bl at *
  generalize Mt.isT ag = bg at *
  by_cases h0 : 0 ≤ f
  · by_cases h1 : f ≤ 100
    · have e0 : decide (0 ≤ f) = true := decide_eq_true h0
      have e1 : decide (f ≤ 100) = true := decide_eq_true h1
      rw [e0, e1]
      cases bw <;> cases bl <;> cases bg
      all_goals
        go_enter Try.func12, Try.ntmps12
        go_wp2_with (first
          | (go_at_call 34; with_reducible refine (HW.out).mono ?_; rintro e w' ⟨rfl, rfl⟩)
          | (go_at_call 34; with_reducible refine (HL.out).mono ?_; rintro e w' ⟨rfl, rfl⟩)
          | (go_at_call 34; with_reducible refine (HG.out).mono ?_; rintro e w' ⟨rfl, rfl⟩))
        all_goals (go_ret; exact ⟨rfl, HA.out⟩)
    · have e0 : decide (0 ≤ f) = true := decide_eq_true h0
      have e1 : decide (f ≤ 100) = false := decide_eq_false h1
      rw [e0, e1]
      go_enter Try.func12, Try.ntmps12
      go_wp2_with fail
      all_goals (go_ret; exact ⟨rfl, HA.out⟩)
  · have e0 : decide (0 ≤ f) = false := decide_eq_false h0
    rw [e0]
    go_enter Try.func12, Try.ntmps12
    go_wp2_with fail
    all_goals (go_ret; exact ⟨rfl, HA.out⟩)
end Go.Proofs.Ytcijjblcoelabaa
