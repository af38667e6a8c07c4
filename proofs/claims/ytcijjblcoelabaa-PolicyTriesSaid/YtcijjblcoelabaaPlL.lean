/-
  Two rows that grow side by side; what the document keeps of failures.
-/
import Derived.Test.YtcijjblcoelabaaPlE
set_option linter.unusedVariables false
set_option linter.unusedSimpArgs false
namespace Go.Proofs.Ytcijjblcoelabaa
open Go.RowKit Go.Shelf

theorem IsRw.orNil {E : TypeId} {s : Nat} {w : World} {g : Nat} {v : Value} {n : Nat} {xs : List Value} (h : IsRw E s w g v n xs) : g < w.heap.size ∨ ∀ (u : World) (m : Nat), IsRw E s u m v n xs := by
  obtain ⟨hl, h⟩ := h
  rcases h with h | ⟨off, cap, cur, h1, h2, h3⟩
  · exact .inr fun u m => ⟨hl, .inl h⟩
  · exact .inl (lt_of_block h2)
/-- Two rows, each of its own. -/
def Two (base : Nat) (u : World) (vA vB : Value) (A B : List Int) : Prop := ∃ g1 g2, base ≤ g1 ∧ base ≤ g2 ∧ g1 ≠ g2 ∧ IsRw 2 1 u g1 vA A.length (tms A) ∧ IsRw 2 1 u g2 vB B.length (tms B)
theorem Two.nil (base : Nat) (u : World) : Two base u (.slice none 0 0) (.slice none 0 0) [] [] := ⟨base, base + 1, Nat.le_refl _, Nat.le_succ _, by omega, IsRw.nil _ _ _ _, IsRw.nil _ _ _ _⟩
theorem Two.swap {base : Nat} {u : World} {vA vB : Value} {A B : List Int} (h : Two base u vA vB A B) : Two base u vB vA B A := by
  obtain ⟨g1, g2, h1, h2, h3, h4, h5⟩ := h
  exact ⟨g2, g1, h2, h1, fun e => h3 e.symm, h5, h4⟩
theorem Two.own {base : Nat} {u : World} {vA vB : Value} {A B : List Int} (h : Two base u vA vB A B) : IsOwn 2 1 base u vA A.length (tms A) := by
  obtain ⟨g1, g2, h1, h2, h3, h4, h5⟩ := h
  exact ⟨g1, h1, h4⟩
theorem Two.mono {base b2 : Nat} {u : World} {vA vB : Value} {A B : List Int} (h : Two base u vA vB A B) (hb : b2 ≤ base) : Two b2 u vA vB A B := by
  obtain ⟨g1, g2, h1, h2, h3⟩ := h
  exact ⟨g1, g2, by omega, by omega, h3⟩
/-- A row of the call's own lies far. -/
theorem IsOwn.far {base : Nat} {w : World} {a : Option Addr} {n c : Nat} {l : List Int} (h : IsOwn 2 1 base w (.slice a n c) l.length (tms l)) : ∀ b off, a = some ⟨b, off, none⟩ → base ≤ b := by
  obtain ⟨g, hg, _, h⟩ := h
  intro b off e
  rcases h with ⟨_, h1⟩ | ⟨off2, cap, cur, h1, _⟩
  · injection h1 with e1; rw [e] at e1; cases e1
  · injection h1 with e1
    rw [e] at e1
    injection e1 with e2
    injection e2 with e3
    omega
theorem Two.push {base : Nat} {u : World} {vA vB : Value} {A B : List Int} (h : Two base u vA vB A B) (hbase : base ≤ u.heap.size) (x : Int) (hn : A.length ≤ 1000) :
    ∃ a c u', (∀ ty, (Builtin.append_ #[24, 24] ty #[vA, .slice (some ⟨u.heap.size, 0, none⟩) 1 1]).run Try.prog (u.alloc (.cells #[.int .i64 x] 2)) = .ok (.slice a (A.length + 1) c) u') ∧ Two base u' (.slice a (A.length + 1) c) vB (A ++ [x]) B ∧ Below base u u' := by
  obtain ⟨i0, hi, hz0, hz1, hz2⟩ := info_parts Try.infoI64
  obtain ⟨g1, g2, h1, h2, h3, h4, h5⟩ := h
  have hbel := (Below.refl u.heap.size u).alloc (Nat.le_refl _) (.cells #[.int .i64 x] 2)
  have hnew := heap_alloc_new u (.cells #[.int .i64 x] 2)
  have hsz : (u.alloc (.cells #[.int .i64 x] 2)).heap.size = u.heap.size + 1 := by simp
  obtain ⟨g, hg1, hg2, hrw⟩ : ∃ g, base ≤ g ∧ (g = g1 ∧ g1 < u.heap.size ∨ g = u.heap.size + 1) ∧ IsRw 2 1 (u.alloc (.cells #[.int .i64 x] 2)) g vA A.length (tms A) := by
    rcases h4.orNil with h | h
    · exact ⟨g1, h1, .inl ⟨rfl, h⟩, h4.below hbel⟩
    · exact ⟨u.heap.size + 1, by omega, .inr rfl, h _ _⟩
  have src : Src Try.prog i0.size 24 (.slice (some ⟨u.heap.size, 0, none⟩) 1 1) 1 (tms [x]) (u.alloc (.cells #[.int .i64 x] 2)) :=
    Src.ofSlice _ Try.underlying24 ⟨u.heap.size, 0, none⟩ 1 1 _ (by rw [hz1]; rfl) (fun j y hy => by
      rw [add_off, cell_of_row _ u.heap.size _ _ _ _ hnew, Nat.zero_add]
      match j, hy with
      | 0, hy => simpa [tms] using hy
      | j + 1, hy => simp [tms] at hy) (tms_one _)
  obtain ⟨v', w', g', hrun, hrw', hg', ho⟩ := rw_append (T := 24) (tx := 24) Try.underlying24 hi hz0 hz1 hz2 rfl hrw (tms_one _) _ 1 (tms [x]) src (by omega) (by omega)
  obtain ⟨a', c', rfl⟩ := hrw'.form
  have hb' : Below base u w' := (hbel.mono hbase).trans (ho.toBelow (fun k hk => by simp at hk; omega) (by rw [hsz]; omega))
  refine ⟨a', c', w', hrun, ?_, hb'⟩
  have hA : IsRw 2 1 w' g' (.slice a' (A.length + 1) c') (A ++ [x]).length (tms (A ++ [x])) := by rw [List.length_append, List.length_singleton, tms_append]; exact hrw'
  have hg'b : base ≤ g' := by rcases hg' with rfl | rfl <;> omega
  rcases h5.orNil with h | h
  · have hne : g2 ≠ g := by rcases hg2 with ⟨rfl, _⟩ | rfl <;> omega
    refine ⟨g', g2, hg'b, h2, ?_, hA, (h5.below hbel).other ho (by simpa using hne)⟩
    rcases hg' with rfl | rfl <;> omega
  · exact ⟨g', g' + 1, hg'b, by omega, by omega, hA, h _ _⟩
/-- What the document keeps. -/
def Mt.keepB (p : Mt.Po) (s : Mt.Ps) (now f : Int) : Bool := decide (s.locked = -1) && (decide (p.window = 0) || decide (now - f < p.window))
theorem Mt.count_keep {p : Mt.Po} {s : Mt.Ps} {now : Int} (h : 0 ≤ p.window) : Mt.countL p s now = s.fails.filter (Mt.keepB p s now) := by
  unfold Mt.countL
  by_cases hk : s.locked = -1
  · rw [if_pos hk]
    congr 1
    funext f
    unfold Mt.overB Mt.keepB
    rw [decide_eq_true hk, Bool.true_and, Bool.eq_iff_iff]
    simp only [Bool.not_eq_true', Bool.and_eq_false_iff, decide_eq_false_iff_not, Bool.or_eq_true, decide_eq_true_eq]
    omega
  · rw [if_neg hk]
    symm
    rw [List.filter_eq_nil_iff]
    intro f _
    unfold Mt.keepB
    rw [decide_eq_false hk]; simp
theorem Mt.filter_step {l : List Int} {j : Nat} (q : Int → Bool) (h : j < l.length) : (l.take (j + 1)).filter q = if q l[j] = true then (l.take j).filter q ++ [l[j]] else (l.take j).filter q := by
  rw [List.take_succ_eq_append_getElem h, List.filter_append]
  by_cases e : q l[j] = true
  · rw [if_pos e, List.filter_cons_of_pos e]; rfl
  · rw [if_neg e, List.filter_cons_of_neg e]; simp
end Go.Proofs.Ytcijjblcoelabaa
