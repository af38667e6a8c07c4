/-
  What tlv.split comes to; how a tree of elements lies in memory.
-/
import Derived.Test.YtmdhioifdnaajaaTv
import Derived.Test.YtmdhioifdnaajaaRw
set_option linter.unusedVariables false
set_option linter.unusedSimpArgs false
namespace Go.Proofs.Ytmdhioifdnaajaa
open Go.RowKit

/-- What split answers. -/
def splitV : Except Nat (Nat × List UInt8 × List UInt8) → Value
  | .error e => .tuple #[.int .i64 0, .string ByteArray.empty, .string ByteArray.empty, .int .i64 e]
  | .ok (t, d, x) => .tuple #[.int .i64 t, .string (Mt.str d), .string (Mt.str x), .int .i64 0]

/-! ### trees in memory -/
/-- The elements of a slice: each reads as R says. -/
def IsKids (R : Value → Mt.Nd → Prop) (w : World) (ok : Nat → Prop) (a : Option Addr) (ns : List Mt.Nd) : Prop :=
  ns = [] ∨ ∃ b off, a = some ⟨b, off, none⟩ ∧ ok b ∧ ∀ i (hi : i < ns.length), ∃ x0 x1 x2, w.cell? ⟨b, off + 3 * i, none⟩ = some x0 ∧ w.cell? ⟨b, off + 3 * i + 1, none⟩ = some x1 ∧ w.cell? ⟨b, off + 3 * i + 2, none⟩ = some x2 ∧ R (.agg #[x0, x1, x2]) ns[i]
/-- A tree, so high at most, in blocks that are ok. -/
def IsNd (w : World) (ok : Nat → Prop) : Nat → Value → Mt.Nd → Prop
  | 0, _, _ => False
  | h + 1, v, n => ∃ a c, v = .agg #[.int .i64 n.tag, .string (Mt.str n.data), .slice a n.kids.length c] ∧ n.data.length ≤ 140737488351232 ∧ n.kids.length ≤ 2932031007402 ∧ IsKids (IsNd w ok h) w ok a n.kids

theorem IsKids.imp {R R' : Value → Mt.Nd → Prop} {w u : World} {ok ok' : Nat → Prop} {a : Option Addr} {ns : List Mt.Nd} (h : IsKids R w ok a ns) (hH : ∀ b, ok b → b < w.heap.size → ok' b) (hR : ∀ v n, R v n → R' v n)
    (hk : ∀ b, ok b → b < w.heap.size → u.heap[b]? = w.heap[b]?) : IsKids R' u ok' a ns := by
  rcases h with h | ⟨b, off, rfl, hb, hc⟩
  · exact .inl h
  · rcases Nat.eq_zero_or_pos ns.length with h0 | h0
    · exact .inl (List.eq_nil_of_length_eq_zero h0)
    · have hlt : b < w.heap.size := by
        obtain ⟨x0, x1, x2, g0, _⟩ := hc 0 h0
        exact World.block_lt_of_cell? w _ g0
      refine .inr ⟨b, off, rfl, hH b hb hlt, fun i hi => ?_⟩
      obtain ⟨x0, x1, x2, h0, h1, h2, hr⟩ := hc i hi
      have hcell : ∀ o, u.cell? ⟨b, o, none⟩ = w.cell? ⟨b, o, none⟩ := fun o => by
        unfold World.cell?
        simp only [hk b hb hlt]
      exact ⟨x0, x1, x2, (hcell _).trans h0, (hcell _).trans h1, (hcell _).trans h2, hR _ _ hr⟩
theorem IsNd.keep {w u : World} {ok ok' : Nat → Prop} (hH : ∀ b, ok b → b < w.heap.size → ok' b) (hk : ∀ b, ok b → b < w.heap.size → u.heap[b]? = w.heap[b]?) : ∀ {h h' : Nat} (_ : h ≤ h') {v : Value} {n : Mt.Nd}, IsNd w ok h v n → IsNd u ok' h' v n
  | 0, _, _, _, _, hh => hh.elim
  | h + 1, 0, hle, _, _, _ => by omega
  | h + 1, h' + 1, hle, v, n, hh => by
    obtain ⟨a, c, rfl, h1, h2, h3⟩ := hh
    exact ⟨a, c, rfl, h1, h2, h3.imp hH (fun _ _ hr => IsNd.keep hH hk (by omega) hr) hk⟩
theorem IsNd.below {w u : World} {ok : Nat → Prop} {h : Nat} {v : Value} {n : Mt.Nd} (hh : IsNd w ok h v n) (hb : Below w.heap.size w u) : IsNd u ok h v n :=
  IsNd.keep (fun _ h _ => h) (fun b _ hlt => hb.block b hlt) (Nat.le_refl _) hh
theorem IsNd.mono {w : World} {ok ok' : Nat → Prop} {h h' : Nat} {v : Value} {n : Mt.Nd} (hh : IsNd w ok h v n) (hle : h ≤ h') (hH : ∀ b, ok b → b < w.heap.size → ok' b) : IsNd w ok' h' v n :=
  IsNd.keep hH (fun _ _ _ => rfl) hle hh
theorem IsNd.form {w : World} {ok : Nat → Prop} {h : Nat} {v : Value} {n : Mt.Nd} (hh : IsNd w ok h v n) : ∃ a c, v = .agg #[.int .i64 n.tag, .string (Mt.str n.data), .slice a n.kids.length c] := by
  cases h with
  | zero => exact hh.elim
  | succ h => obtain ⟨a, c, e, _⟩ := hh; exact ⟨a, c, e⟩
theorem IsNd.kid {w : World} {ok : Nat → Prop} {h : Nat} {v : Value} {n : Mt.Nd} (hh : IsNd w ok h v n) (i : Nat) (hi : i < n.kids.length) : ∃ h', h = h' + 1 ∧ ∃ b off c, v = .agg #[.int .i64 n.tag, .string (Mt.str n.data), .slice (some ⟨b, off, none⟩) n.kids.length c] ∧
    ∀ i (hi : i < n.kids.length), ∃ x0 x1 x2, w.cell? ⟨b, off + 3 * i, none⟩ = some x0 ∧ w.cell? ⟨b, off + 3 * i + 1, none⟩ = some x1 ∧ w.cell? ⟨b, off + 3 * i + 2, none⟩ = some x2 ∧ IsNd w ok h' (.agg #[x0, x1, x2]) n.kids[i] := by
  cases h with
  | zero => exact hh.elim
  | succ h =>
    obtain ⟨a, c, rfl, _, _, hk⟩ := hh
    rcases hk with hk | ⟨b, off, rfl, _, hc⟩
    · rw [hk] at hi; simp at hi
    · exact ⟨h, rfl, b, off, c, rfl, hc⟩

/-- Trees laid out in cells, three each. -/
def AreNds (w : World) (ok : Nat → Prop) (h : Nat) (xs : List Value) (ns : List Mt.Nd) : Prop :=
  xs.length = ns.length * 3 ∧ (∀ u ∈ xs, u.oneCell' = true) ∧ ∀ i (hi : i < ns.length), ∃ x0 x1 x2, xs[3 * i]? = some x0 ∧ xs[3 * i + 1]? = some x1 ∧ xs[3 * i + 2]? = some x2 ∧ IsNd w ok h (.agg #[x0, x1, x2]) ns[i]
theorem AreNds.nil (w : World) (ok : Nat → Prop) (h : Nat) : AreNds w ok h [] [] := ⟨rfl, by simp, fun i hi => by simp at hi⟩
theorem AreNds.keep {w u : World} {ok ok' : Nat → Prop} {h : Nat} {xs : List Value} {ns : List Mt.Nd} (hh : AreNds w ok h xs ns) (hH : ∀ b, ok b → b < w.heap.size → ok' b) (hk : ∀ b, ok b → b < w.heap.size → u.heap[b]? = w.heap[b]?) : AreNds u ok' h xs ns :=
  ⟨hh.1, hh.2.1, fun i hi => by
    obtain ⟨x0, x1, x2, h0, h1, h2, hr⟩ := hh.2.2 i hi
    exact ⟨x0, x1, x2, h0, h1, h2, IsNd.keep hH hk (Nat.le_refl _) hr⟩⟩
theorem AreNds.snoc {w : World} {ok : Nat → Prop} {h : Nat} {xs : List Value} {ns : List Mt.Nd} (hh : AreNds w ok h xs ns) {x0 x1 x2 : Value} {n : Mt.Nd} (hn : IsNd w ok h (.agg #[x0, x1, x2]) n) : AreNds w ok h (xs ++ [x0, x1, x2]) (ns ++ [n]) := by
  obtain ⟨hl, h1, hc⟩ := hh
  refine ⟨by simp [hl]; omega, ?_, fun i hi => ?_⟩
  · intro u hu
    rw [List.mem_append] at hu
    rcases hu with hu | hu
    · exact h1 u hu
    · obtain ⟨a, c, e⟩ := hn.form
      simp only [Value.agg.injEq] at e
      have e' := congrArg Array.toList e
      simp only [List.cons.injEq, and_true] at e'
      obtain ⟨rfl, rfl, rfl⟩ := e'
      simp at hu
      rcases hu with rfl | rfl | rfl <;> rfl
  · by_cases hlt : i < ns.length
    · obtain ⟨y0, y1, y2, g0, g1, g2, hr⟩ := hc i hlt
      refine ⟨y0, y1, y2, ?_, ?_, ?_, ?_⟩
      · rw [List.getElem?_append_left (by omega)]; exact g0
      · rw [List.getElem?_append_left (by omega)]; exact g1
      · rw [List.getElem?_append_left (by omega)]; exact g2
      · rw [List.getElem_append_left hlt]; exact hr
    · have hi' : i = ns.length := by simp at hi; omega
      subst hi'
      refine ⟨x0, x1, x2, ?_, ?_, ?_, ?_⟩
      · rw [List.getElem?_append_right (by omega), hl, show 3 * ns.length - ns.length * 3 = 0 by omega]; rfl
      · rw [List.getElem?_append_right (by omega), hl, show 3 * ns.length + 1 - ns.length * 3 = 1 by omega]; rfl
      · rw [List.getElem?_append_right (by omega), hl, show 3 * ns.length + 2 - ns.length * 3 = 2 by omega]; rfl
      · simpa using hn
/-- A row of trees is a tree's kids. -/
theorem kids_of {w : World} {ok : Nat → Prop} {h g n : Nat} {v : Value} {xs : List Value} {ns : List Mt.Nd} (hr : IsRw 62 3 w g v n xs) (hg : ok g) (hn : AreNds w ok h xs ns) (e : n = ns.length) : ∃ a c, v = .slice a ns.length c ∧ IsKids (IsNd w ok h) w ok a ns := by
  subst e
  obtain ⟨hl, h1, hc⟩ := hn
  rcases hr.2 with ⟨h0, rfl⟩ | ⟨off, cap, cur, rfl, h2, h3, h4, h5⟩
  · have hnil : ns = [] := List.eq_nil_of_length_eq_zero h0
    subst hnil
    exact ⟨none, 0, rfl, .inl rfl⟩
  · refine ⟨_, _, rfl, .inr ⟨g, off, rfl, hg, fun i hi => ?_⟩⟩
    obtain ⟨x0, x1, x2, g0, g1, g2, hr⟩ := hc i hi
    have hcell : ∀ j x, xs[j]? = some x → w.cell? ⟨g, off + j, none⟩ = some x := by
      intro j x hx
      have hj : j < xs.length := by
        rcases Nat.lt_or_ge j xs.length with h | h
        · exact h
        · rw [List.getElem?_eq_none h] at hx; cases hx
      rw [List.getElem?_eq_getElem hj] at hx
      cases hx
      rw [cell_of_row w g _ cur 62 (0, 0) h2]
      exact h5 j hj
    exact ⟨x0, x1, x2, hcell _ _ g0, by rw [show off + 3 * i + 1 = off + (3 * i + 1) by omega]; exact hcell _ _ g1, by rw [show off + 3 * i + 2 = off + (3 * i + 2) by omega]; exact hcell _ _ g2, hr⟩
/-- The node that is none. -/
def zeroN : Value := .agg #[.int .i64 0, .string ByteArray.empty, .slice none 0 0]
theorem Try.infoNode : (Try.prog.info? 62).map (fun i => (i.zero, i.size, i.bytes)) = some (some zeroN, 3, 48) := by kernel_rfl
/-- A row of trees grows by one more, which stands in a block of its own. -/
theorem nds_append {w : World} {base h g : Nat} {v : Value} {xs : List Value} {ns : List Mt.Nd} (hr : IsRw 62 3 w g v ns.length xs) (hn : AreNds w (fun b => base ≤ b ∧ b ≠ g) h xs ns) (hg : base ≤ g) (hb : base ≤ w.heap.size)
    {x0 x1 x2 : Value} {n : Mt.Nd} (hx : IsNd w (fun b => base ≤ b ∧ b ≠ g) h (.agg #[x0, x1, x2]) n) (hlen : (ns.length + 1) * 48 ≤ 140737488355328) :
    ∃ v' w' g', (∀ ty, (Builtin.append_ #[60, 60] ty #[v, .slice (some ⟨w.heap.size, 0, none⟩) 1 1]).run Try.prog (w.alloc (.cells #[x0, x1, x2] 62)) = .ok v' w') ∧ IsRw 62 3 w' g' v' (ns ++ [n]).length (xs ++ [x0, x1, x2]) ∧
      AreNds w' (fun b => base ≤ b ∧ b ≠ g') h (xs ++ [x0, x1, x2]) (ns ++ [n]) ∧ base ≤ g' ∧ OnlyS [g] w w' ∧ g' < w'.heap.size := by
  obtain ⟨i0, hi, hz0, hz1, hz2⟩ := info_parts Try.infoNode
  have hbel := (Below.refl w.heap.size w).alloc (Nat.le_refl _) (.cells #[x0, x1, x2] 62)
  have hsn := hn.snoc hx
  have hone : ∀ u ∈ [x0, x1, x2], u.oneCell' = true := fun u hu => hsn.2.1 u (List.mem_append_right _ hu)
  have src : Src Try.prog i0.size 60 (.slice (some ⟨w.heap.size, 0, none⟩) 1 1) 1 [x0, x1, x2] (w.alloc (.cells #[x0, x1, x2] 62)) :=
    Src.ofSlice _ Try.underlying60 ⟨w.heap.size, 0, none⟩ 1 1 _ (by rw [hz1]; rfl) (fun j u hu => by
      rw [add_off, cell_of_row _ w.heap.size _ _ _ _ (heap_alloc_new w _), Nat.zero_add]
      simpa using hu) hone
  obtain ⟨v', w', g', hrun, hrw, hg', ho⟩ := rw_append (T := 60) (tx := 60) Try.underlying60 hi hz0 hz1 hz2 rfl (hr.below hbel) hn.2.1 _ 1 [x0, x1, x2] src (by omega) (by omega)
  have hlt' : g' < w'.heap.size := by
    rcases hrw.2 with ⟨h0, _⟩ | ⟨off, cap, cur, _, h2, _⟩
    · omega
    · exact lt_of_block h2
  refine ⟨v', w', g', hrun, by rw [List.length_append]; exact hrw, ?_, ?_, ⟨ho.os.trans hbel.os, ho.tape.trans hbel.tape, ho.output.trans hbel.output, Nat.le_trans hbel.size ho.size, fun k hk hS => (ho.block k (Nat.lt_of_lt_of_le hk hbel.size) hS).trans (hbel.block k hk)⟩, hlt'⟩
  · refine hsn.keep (fun b hb hlt => ⟨hb.1, ?_⟩) (fun b hb hlt => (ho.block b (Nat.lt_of_lt_of_le hlt hbel.size) (by simpa using hb.2)).trans (hbel.block b hlt))
    rcases hg' with rfl | rfl
    · exact hb.2
    · simp; omega
  · rcases hg' with rfl | rfl
    · exact hg
    · simp; omega
end Go.Proofs.Ytmdhioifdnaajaa
