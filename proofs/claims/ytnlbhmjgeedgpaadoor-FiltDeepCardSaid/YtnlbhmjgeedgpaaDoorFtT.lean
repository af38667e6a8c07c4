/-
  How a tree of filters lies in memory.
-/
import Derived.Test.YtnlbhmjgeedgpaaDoorFtF
set_option linter.unusedVariables false
set_option linter.unusedSimpArgs false
namespace Go.Proofs.YtnlbhmjgeedgpaaDoor
open Go.RowKit

/-- Pieces in a slice, in a block that is ok. -/
def IsPcA (w : World) (ok : Nat → Prop) (a : Option Addr) (ps : List Mt.Pc) : Prop :=
  ps = [] ∨ ∃ b off, a = some ⟨b, off, none⟩ ∧ ok b ∧ ∀ j (hj : j < ps.length), w.cell? ⟨b, off + j * 2, none⟩ = some (.int .i64 ps[j].1) ∧ w.cell? ⟨b, off + j * 2 + 1, none⟩ = some (.string (Mt.str ps[j].2))
def IsKidsF (R : Value → Mt.Fl → Prop) (w : World) (ok : Nat → Prop) (a : Option Addr) (fs : List Mt.Fl) : Prop :=
  fs = [] ∨ ∃ b off, a = some ⟨b, off, none⟩ ∧ ok b ∧ ∀ i (hi : i < fs.length), ∃ x0 x1 x2 x3 x4, w.cell? ⟨b, off + i * 5, none⟩ = some x0 ∧ w.cell? ⟨b, off + i * 5 + 1, none⟩ = some x1 ∧ w.cell? ⟨b, off + i * 5 + 2, none⟩ = some x2 ∧ w.cell? ⟨b, off + i * 5 + 3, none⟩ = some x3 ∧ w.cell? ⟨b, off + i * 5 + 4, none⟩ = some x4 ∧ R (.agg #[x0, x1, x2, x3, x4]) fs[i]
/-- The value of a filter. -/
def flV (f : Mt.Fl) (pa : Option Addr) (pc : Nat) (a : Option Addr) (c : Nat) : Value := .agg #[.int .i64 f.kind, .string (Mt.str f.attr), .string (Mt.str f.value), .slice pa f.pcs.length pc, .slice a f.kids.length c]
/-- The sizes of a filter's own parts. -/
structure Mt.FlOk (f : Mt.Fl) : Prop where
  attr : f.attr.length ≤ 140737488351232
  value : f.value.length ≤ 140737488351232
  pcs : f.pcs.length ≤ 5864062014805
  pc : ∀ p ∈ f.pcs, p.2.length ≤ 140737488351232
  kids : f.kids.length ≤ 1599289640401
/-- A tree, so high at most, in blocks that are ok. -/
def IsFl (w : World) (ok : Nat → Prop) : Nat → Value → Mt.Fl → Prop
  | 0, _, _ => False
  | h + 1, v, f => ∃ pa pc a c, v = flV f pa pc a c ∧ Mt.FlOk f ∧ IsPcA w ok pa f.pcs ∧ IsKidsF (IsFl w ok h) w ok a f.kids

theorem IsPcA.imp {w u : World} {ok ok' : Nat → Prop} {a : Option Addr} {ps : List Mt.Pc} (h : IsPcA w ok a ps) (hH : ∀ b, ok b → b < w.heap.size → ok' b) (hk : ∀ b, ok b → b < w.heap.size → u.heap[b]? = w.heap[b]?) : IsPcA u ok' a ps := by
  rcases h with h | ⟨b, off, rfl, hb, hc⟩
  · exact .inl h
  · rcases Nat.eq_zero_or_pos ps.length with h0 | h0
    · exact .inl (List.eq_nil_of_length_eq_zero h0)
    · have hlt : b < w.heap.size := World.block_lt_of_cell? w _ (hc 0 h0).1
      have hcell : ∀ o, u.cell? ⟨b, o, none⟩ = w.cell? ⟨b, o, none⟩ := fun o => by unfold World.cell?; simp only [hk b hb hlt]
      exact .inr ⟨b, off, rfl, hH b hb hlt, fun j hj => ⟨(hcell _).trans (hc j hj).1, (hcell _).trans (hc j hj).2⟩⟩
theorem IsKidsF.imp {R R' : Value → Mt.Fl → Prop} {w u : World} {ok ok' : Nat → Prop} {a : Option Addr} {fs : List Mt.Fl} (h : IsKidsF R w ok a fs) (hH : ∀ b, ok b → b < w.heap.size → ok' b) (hR : ∀ v n, R v n → R' v n)
    (hk : ∀ b, ok b → b < w.heap.size → u.heap[b]? = w.heap[b]?) : IsKidsF R' u ok' a fs := by
  rcases h with h | ⟨b, off, rfl, hb, hc⟩
  · exact .inl h
  · rcases Nat.eq_zero_or_pos fs.length with h0 | h0
    · exact .inl (List.eq_nil_of_length_eq_zero h0)
    · have hlt : b < w.heap.size := by
        obtain ⟨x0, x1, x2, x3, x4, g0, _⟩ := hc 0 h0
        exact World.block_lt_of_cell? w _ g0
      refine .inr ⟨b, off, rfl, hH b hb hlt, fun i hi => ?_⟩
      obtain ⟨x0, x1, x2, x3, x4, h0, h1, h2, h3, h4, hr⟩ := hc i hi
      have hcell : ∀ o, u.cell? ⟨b, o, none⟩ = w.cell? ⟨b, o, none⟩ := fun o => by unfold World.cell?; simp only [hk b hb hlt]
      exact ⟨x0, x1, x2, x3, x4, (hcell _).trans h0, (hcell _).trans h1, (hcell _).trans h2, (hcell _).trans h3, (hcell _).trans h4, hR _ _ hr⟩
theorem IsFl.keep {w u : World} {ok ok' : Nat → Prop} (hH : ∀ b, ok b → b < w.heap.size → ok' b) (hk : ∀ b, ok b → b < w.heap.size → u.heap[b]? = w.heap[b]?) : ∀ {h h' : Nat} (_ : h ≤ h') {v : Value} {f : Mt.Fl}, IsFl w ok h v f → IsFl u ok' h' v f
  | 0, _, _, _, _, hh => hh.elim
  | h + 1, 0, hle, _, _, _ => by omega
  | h + 1, h' + 1, hle, v, f, hh => by
    obtain ⟨pa, pc, a, c, rfl, h1, h2, h3⟩ := hh
    exact ⟨pa, pc, a, c, rfl, h1, h2.imp hH hk, h3.imp hH (fun _ _ hr => IsFl.keep hH hk (by omega) hr) hk⟩
theorem IsFl.below {w u : World} {ok : Nat → Prop} {h : Nat} {v : Value} {f : Mt.Fl} (hh : IsFl w ok h v f) (hb : Below w.heap.size w u) : IsFl u ok h v f :=
  IsFl.keep (fun _ h _ => h) (fun b _ hlt => hb.block b hlt) (Nat.le_refl _) hh
theorem IsFl.mono {w : World} {ok ok' : Nat → Prop} {h h' : Nat} {v : Value} {f : Mt.Fl} (hh : IsFl w ok h v f) (hle : h ≤ h') (hH : ∀ b, ok b → b < w.heap.size → ok' b) : IsFl w ok' h' v f :=
  IsFl.keep hH (fun _ _ _ => rfl) hle hh
theorem IsFl.form {w : World} {ok : Nat → Prop} {h : Nat} {v : Value} {f : Mt.Fl} (hh : IsFl w ok h v f) : ∃ pa pc a c, v = flV f pa pc a c := by
  cases h with
  | zero => exact hh.elim
  | succ h => obtain ⟨pa, pc, a, c, e, _⟩ := hh; exact ⟨pa, pc, a, c, e⟩
theorem IsFl.ok' {w : World} {ok : Nat → Prop} {h : Nat} {v : Value} {f : Mt.Fl} (hh : IsFl w ok h v f) : Mt.FlOk f := by
  cases h with
  | zero => exact hh.elim
  | succ h => obtain ⟨pa, pc, a, c, e, h1, _⟩ := hh; exact h1
/-- Trees laid out in cells, five each. -/
def AreFls (w : World) (ok : Nat → Prop) (h : Nat) (xs : List Value) (fs : List Mt.Fl) : Prop :=
  xs.length = fs.length * 5 ∧ (∀ u ∈ xs, u.oneCell' = true) ∧ ∀ i (hi : i < fs.length), ∃ x0 x1 x2 x3 x4, xs[i * 5]? = some x0 ∧ xs[i * 5 + 1]? = some x1 ∧ xs[i * 5 + 2]? = some x2 ∧ xs[i * 5 + 3]? = some x3 ∧ xs[i * 5 + 4]? = some x4 ∧ IsFl w ok h (.agg #[x0, x1, x2, x3, x4]) fs[i]
theorem AreFls.nil (w : World) (ok : Nat → Prop) (h : Nat) : AreFls w ok h [] [] := ⟨rfl, by simp, fun i hi => by simp at hi⟩
theorem AreFls.keep {w u : World} {ok ok' : Nat → Prop} {h h' : Nat} {xs : List Value} {fs : List Mt.Fl} (hh : AreFls w ok h xs fs) (hle : h ≤ h') (hH : ∀ b, ok b → b < w.heap.size → ok' b) (hk : ∀ b, ok b → b < w.heap.size → u.heap[b]? = w.heap[b]?) : AreFls u ok' h' xs fs :=
  ⟨hh.1, hh.2.1, fun i hi => by
    obtain ⟨x0, x1, x2, x3, x4, h0, h1, h2, h3, h4, hr⟩ := hh.2.2 i hi
    exact ⟨x0, x1, x2, x3, x4, h0, h1, h2, h3, h4, IsFl.keep hH hk hle hr⟩⟩
theorem flV_five {f : Mt.Fl} {pa : Option Addr} {pc : Nat} {a : Option Addr} {c : Nat} {x0 x1 x2 x3 x4 : Value} (h : (.agg #[x0, x1, x2, x3, x4] : Value) = flV f pa pc a c) :
    x0 = .int .i64 f.kind ∧ x1 = .string (Mt.str f.attr) ∧ x2 = .string (Mt.str f.value) ∧ x3 = .slice pa f.pcs.length pc ∧ x4 = .slice a f.kids.length c := by
  unfold flV at h
  simp only [Value.agg.injEq] at h
  have e' := congrArg Array.toList h
  simp only [List.cons.injEq, and_true] at e'
  exact e'
theorem AreFls.snoc {w : World} {ok : Nat → Prop} {h : Nat} {xs : List Value} {fs : List Mt.Fl} (hh : AreFls w ok h xs fs) {x0 x1 x2 x3 x4 : Value} {f : Mt.Fl} (hn : IsFl w ok h (.agg #[x0, x1, x2, x3, x4]) f) : AreFls w ok h (xs ++ [x0, x1, x2, x3, x4]) (fs ++ [f]) := by
  obtain ⟨hl, h1, hc⟩ := hh
  refine ⟨by simp [hl]; omega, ?_, fun i hi => ?_⟩
  · intro u hu
    rw [List.mem_append] at hu
    rcases hu with hu | hu
    · exact h1 u hu
    · obtain ⟨pa, pc, a, c, e⟩ := hn.form
      obtain ⟨rfl, rfl, rfl, rfl, rfl⟩ := flV_five e
      simp at hu
      rcases hu with rfl | rfl | rfl | rfl | rfl <;> rfl
  · by_cases hlt : i < fs.length
    · obtain ⟨y0, y1, y2, y3, y4, g0, g1, g2, g3, g4, hr⟩ := hc i hlt
      refine ⟨y0, y1, y2, y3, y4, ?_, ?_, ?_, ?_, ?_, ?_⟩
      · rw [List.getElem?_append_left (by omega)]; exact g0
      · rw [List.getElem?_append_left (by omega)]; exact g1
      · rw [List.getElem?_append_left (by omega)]; exact g2
      · rw [List.getElem?_append_left (by omega)]; exact g3
      · rw [List.getElem?_append_left (by omega)]; exact g4
      · rw [List.getElem_append_left hlt]; exact hr
    · have hi' : i = fs.length := by simp at hi; omega
      subst hi'
      refine ⟨x0, x1, x2, x3, x4, ?_, ?_, ?_, ?_, ?_, ?_⟩
      · rw [List.getElem?_append_right (by omega), hl, show fs.length * 5 - fs.length * 5 = 0 by omega]; rfl
      · rw [List.getElem?_append_right (by omega), hl, show fs.length * 5 + 1 - fs.length * 5 = 1 by omega]; rfl
      · rw [List.getElem?_append_right (by omega), hl, show fs.length * 5 + 2 - fs.length * 5 = 2 by omega]; rfl
      · rw [List.getElem?_append_right (by omega), hl, show fs.length * 5 + 3 - fs.length * 5 = 3 by omega]; rfl
      · rw [List.getElem?_append_right (by omega), hl, show fs.length * 5 + 4 - fs.length * 5 = 4 by omega]; rfl
      · simpa using hn
/-- A row of trees is a tree's kids. -/
theorem fkids_of {w : World} {ok : Nat → Prop} {h g n : Nat} {v : Value} {xs : List Value} {fs : List Mt.Fl} (hr : IsRw 25 5 w g v n xs) (hg : ok g) (hn : AreFls w ok h xs fs) (e : n = fs.length) : ∃ a c, v = .slice a fs.length c ∧ IsKidsF (IsFl w ok h) w ok a fs := by
  subst e
  obtain ⟨hl, h1, hc⟩ := hn
  rcases hr.2 with ⟨h0, rfl⟩ | ⟨off, cap, cur, rfl, h2, h3, h4, h5⟩
  · have hnil : fs = [] := List.eq_nil_of_length_eq_zero h0
    subst hnil
    exact ⟨none, 0, rfl, .inl rfl⟩
  · refine ⟨_, _, rfl, .inr ⟨g, off, rfl, hg, fun i hi => ?_⟩⟩
    obtain ⟨x0, x1, x2, x3, x4, g0, g1, g2, g3, g4, hr⟩ := hc i hi
    have hcell : ∀ j x, xs[j]? = some x → w.cell? ⟨g, off + j, none⟩ = some x := by
      intro j x hx
      have hj : j < xs.length := by
        rcases Nat.lt_or_ge j xs.length with h | h
        · exact h
        · rw [List.getElem?_eq_none h] at hx; cases hx
      rw [List.getElem?_eq_getElem hj] at hx
      cases hx
      rw [cell_of_row w g _ cur 25 (0, 0) h2]
      exact h5 j hj
    exact ⟨x0, x1, x2, x3, x4, hcell _ _ g0, by rw [show off + i * 5 + 1 = off + (i * 5 + 1) by omega]; exact hcell _ _ g1, by rw [show off + i * 5 + 2 = off + (i * 5 + 2) by omega]; exact hcell _ _ g2, by rw [show off + i * 5 + 3 = off + (i * 5 + 3) by omega]; exact hcell _ _ g3, by rw [show off + i * 5 + 4 = off + (i * 5 + 4) by omega]; exact hcell _ _ g4, hr⟩
/-- The filter that is none. -/
def zeroF : Value := .agg #[.int .i64 0, .string ⟨#[]⟩, .string ⟨#[]⟩, .slice none 0 0, .slice none 0 0]
theorem Tryd.infoFilter : (Tryd.prog.info? 25).map (fun i => (i.zero, i.size, i.bytes)) = some (some zeroF, 5, 88) := by kernel_rfl
/-- A row of trees grows by one more, which stands in a block of its own. -/
theorem fls_append {w : World} {base h g : Nat} {v : Value} {xs : List Value} {fs : List Mt.Fl} (hr : IsRw 25 5 w g v fs.length xs) (hn : AreFls w (fun b => base ≤ b ∧ b ≠ g) h xs fs) (hg : base ≤ g) (hb : base ≤ w.heap.size)
    {x0 x1 x2 x3 x4 : Value} {f : Mt.Fl} (hx : IsFl w (fun b => base ≤ b ∧ b ≠ g) h (.agg #[x0, x1, x2, x3, x4]) f) (hlen : (fs.length + 1) * 88 ≤ 140737488355328) :
    ∃ a' c' w' g', (∀ ty, (Builtin.append_ #[23, 23] ty #[v, .slice (some ⟨w.heap.size, 0, none⟩) 1 1]).run Tryd.prog (w.alloc (.cells #[x0, x1, x2, x3, x4] 25)) = .ok (.slice a' (fs.length + 1) c') w') ∧ IsRw 25 5 w' g' (.slice a' (fs.length + 1) c') (fs ++ [f]).length (xs ++ [x0, x1, x2, x3, x4]) ∧
      AreFls w' (fun b => base ≤ b ∧ b ≠ g') h (xs ++ [x0, x1, x2, x3, x4]) (fs ++ [f]) ∧ base ≤ g' ∧ OnlyS [g] w w' ∧ g' < w'.heap.size := by
  obtain ⟨i0, hi, hz0, hz1, hz2⟩ := info_parts Tryd.infoFilter
  have hbel := (Below.refl w.heap.size w).alloc (Nat.le_refl _) (.cells #[x0, x1, x2, x3, x4] 25)
  have hsn := hn.snoc hx
  have hone : ∀ u ∈ [x0, x1, x2, x3, x4], u.oneCell' = true := fun u hu => hsn.2.1 u (List.mem_append_right _ hu)
  have src : Src Tryd.prog i0.size 23 (.slice (some ⟨w.heap.size, 0, none⟩) 1 1) 1 [x0, x1, x2, x3, x4] (w.alloc (.cells #[x0, x1, x2, x3, x4] 25)) :=
    Src.ofSlice _ Tryd.underlying23 ⟨w.heap.size, 0, none⟩ 1 1 _ (by rw [hz1]; rfl) (fun j u hu => by
      rw [add_off, cell_of_row _ w.heap.size _ _ _ _ (heap_alloc_new w _), Nat.zero_add]
      simpa using hu) hone
  obtain ⟨v', w', g', hrun, hrw, hg', ho⟩ := rw_append (T := 23) (tx := 23) Tryd.underlying23 hi hz0 hz1 hz2 rfl (hr.below hbel) hn.2.1 _ 1 [x0, x1, x2, x3, x4] src (by omega) (by omega)
  have hlt' : g' < w'.heap.size := by
    rcases hrw.2 with ⟨h0, _⟩ | ⟨off, cap, cur, _, h2, _⟩
    · omega
    · exact lt_of_block h2
  obtain ⟨a', c', rfl⟩ := hrw.form
  refine ⟨a', c', w', g', hrun, by rw [List.length_append]; exact hrw, ?_, ?_, ⟨ho.os.trans hbel.os, ho.tape.trans hbel.tape, ho.output.trans hbel.output, Nat.le_trans hbel.size ho.size, fun k hk hS => (ho.block k (Nat.lt_of_lt_of_le hk hbel.size) hS).trans (hbel.block k hk)⟩, hlt'⟩
  · refine hsn.keep (Nat.le_refl _) (fun b hb hlt => ⟨hb.1, ?_⟩) (fun b hb hlt => (ho.block b (Nat.lt_of_lt_of_le hlt hbel.size) (by simpa using hb.2)).trans (hbel.block b hlt))
    rcases hg' with rfl | rfl
    · exact hb.2
    · simp; omega
  · rcases hg' with rfl | rfl
    · exact hg
    · simp; omega
end Go.Proofs.YtnlbhmjgeedgpaaDoor
