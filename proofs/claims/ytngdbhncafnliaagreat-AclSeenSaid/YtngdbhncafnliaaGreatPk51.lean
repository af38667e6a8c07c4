/-
  Some texts of one proof, one behind the other.
-/
import Derived.Test.YtngdbhncafnliaaGreatPk43
import Derived.Test.YtngdbhncafnliaaGreatPk44
import Derived.Test.YtngdbhncafnliaaGreatPk50
set_option linter.unusedVariables false
set_option linter.unusedSimpArgs false

/-
  Rules that a call puts together while the schema is made beside, in whatever order.
-/
namespace Go.Proofs.YtngdbhncafnliaaGreat
open Go.RowKit
set_option linter.unusedVariables false

theorem Tryz.infoRule : (Tryz.prog.info? 54).map (fun i => (i.zero, i.size, i.bytes)) = some (some (.agg #[.int .i64 0, .string ByteArray.empty, .string ByteArray.empty, .string ByteArray.empty, .int .i64 0, .bool false]), 6, 72) := by kernel_rfl
theorem ruCells_app (l m : List Mt.Ru) : ruCells (l ++ m) = ruCells l ++ ruCells m := by unfold ruCells; rw [List.flatMap_append]
theorem IsRw.rus {E : TypeId} {w : World} {g : Nat} {v : Value} {r : List Mt.Ru} (h : IsRw E 6 w g v r.length (ruCells r)) : IsRus w v r := IsOwn.rus (base := 0) ⟨g, Nat.zero_le _, h⟩
theorem src_rus {w : World} {x : Value} {r : List Mt.Ru} (h : IsRus w x r) : Src Tryz.prog 6 24 x r.length (ruCells r) w := by
  obtain ⟨a, cap, rfl, hcap, hcell⟩ := h
  rcases r with _ | ⟨y, r⟩
  · cases a with
    | none => exact Src.ofNil w Tryz.underlying24 cap
    | some p => exact Src.ofSlice w Tryz.underlying24 p 0 cap [] (by simp) (fun j u hu => by simp at hu) (by simp)
  · obtain ⟨b, off, e0, hbl, -⟩ := hcell.out 0 (by simp)
    subst e0
    refine Src.ofSlice w Tryz.underlying24 ⟨b, off, none⟩ _ cap _ (by rw [ruCells_len]) (fun j u hu => ?_) (ruCells_one _)
    have hj : j < (ruCells (y :: r)).length := by
      rcases Nat.lt_or_ge j (ruCells (y :: r)).length with h | h
      · exact h
      · rw [List.getElem?_eq_none h] at hu; cases hu
    rw [ruCells_len] at hj
    obtain ⟨b', off', e1, hbl', h0, h1, h2, h3, h4, h5⟩ := hcell.out (j / 6) (by omega)
    cases e1
    obtain ⟨g0, g1, g2, g3, g4, g5⟩ := ruCells_get (y :: r) (j / 6) (by omega)
    rw [add_off]
    have hm : j % 6 = 0 ∨ j % 6 = 1 ∨ j % 6 = 2 ∨ j % 6 = 3 ∨ j % 6 = 4 ∨ j % 6 = 5 := by omega
    have hd : j = j / 6 * 6 + j % 6 := by omega
    rcases hm with h | h | h | h | h | h <;> rw [h] at hd <;> rw [hd] at hu ⊢
    · rw [Nat.add_zero] at hu ⊢; rw [g0] at hu; rw [← hu]; exact h0
    · rw [g1] at hu; rw [← hu, ← Nat.add_assoc]; exact h1
    · rw [g2] at hu; rw [← hu, ← Nat.add_assoc]; exact h2
    · rw [g3] at hu; rw [← hu, ← Nat.add_assoc]; exact h3
    · rw [g4] at hu; rw [← hu, ← Nat.add_assoc]; exact h4
    · rw [g5] at hu; rw [← hu, ← Nat.add_assoc]; exact h5
/-- What a call has put together so far: the schema, a row of rules of its own, a row of the one rule that denies all. -/
def St (w1 u : World) (c : Option (Value × Value)) (a : Option (Option Addr × Nat × List Mt.Ru)) (b : Option Nat) : Prop := Below w1.heap.size w1 u ∧ ∃ E : Nat → Prop, (∀ e, E e → w1.heap.size ≤ e ∧ e < u.heap.size) ∧ (∀ ad cap L, a = some (ad, cap, L) → (L = [] ∧ ad = none ∧ cap = 0) ∨ ∃ g, E g ∧ IsRw 54 6 u g (.slice ad L.length cap) L.length (ruCells L)) ∧ (∀ q, b = some q → IsRus u (.slice (some ⟨q, 0, none⟩) 1 1) [Mt.denyR]) ∧ (∀ tv cv, c = some (tv, cv) → ∀ u', (∀ k, k < u.heap.size → ¬ E k → u'.heap[k]? = u.heap[k]?) → IsSc u' tv cv Mt.core)
section
variable {w1 u : World} {c : Option (Value × Value)} {a : Option (Option Addr × Nat × List Mt.Ru)} {b : Option Nat}
theorem St.bel (h : St w1 u c a b) : Below w1.heap.size w1 u := h.1
theorem St.zero (h : Below w1.heap.size w1 u) : St w1 u none none none := ⟨h, fun _ => False, fun _ h => h.elim, fun _ _ _ h => (by cases h), fun _ h => (by cases h), fun _ _ h => (by cases h)⟩
theorem St.core {w' : World} {tv cv : Value} (h : St w1 u none a b) (hf : ∀ x, (∀ k, u.heap.size < k → k < w'.heap.size → x.heap[k]? = w'.heap[k]?) → IsSc x tv cv Mt.core) (hb : Below u.heap.size u w') : St w1 w' (some (tv, cv)) a b := by
  obtain ⟨h1, E, h2, h3, h4, h5⟩ := h
  have hs := hb.size
  refine ⟨h1.trans (hb.mono h1.size), E, fun e he => ⟨(h2 e he).1, Nat.lt_of_lt_of_le (h2 e he).2 hs⟩, fun ad cap L e => ?_, fun q e => (h4 q e).below hb, fun t2 c2 e x hx => ?_⟩
  · rcases h3 ad cap L e with h | ⟨g, hg, hr⟩
    · exact .inl h
    · exact .inr ⟨g, hg, hr.below hb⟩
  · cases e
    exact hf x fun k k1 k2 => hx k k2 fun he => by have := (h2 k he).2; omega
theorem IsRus.deny {q : Nat} (h : u.heap[q]? = some (.cells #[.int .i64 0, .string ⟨#[]⟩, .string ⟨#[]⟩, .string ⟨#[]⟩, .int .i64 15, .bool false] 54)) : IsRw 54 6 u q (.slice (some ⟨q, 0, none⟩) 1 1) 1 (ruCells [Mt.denyR]) :=
  ⟨rfl, .inr ⟨0, 1, _, rfl, h, Nat.le_refl _, by decide, fun j hj => by rw [Nat.zero_add, show (#[.int .i64 0, .string ⟨#[]⟩, .string ⟨#[]⟩, .string ⟨#[]⟩, .int .i64 15, .bool false] : Array Value) = (ruCells [Mt.denyR]).toArray from rfl, List.getElem?_toArray, List.getElem?_eq_getElem hj]⟩⟩
theorem St.stay {w' : World} (h : St w1 u c a b) (hb : Below u.heap.size u w') : St w1 w' c a b := by
  obtain ⟨h1, E, h2, h3, h4, h5⟩ := h
  have hs := hb.size
  refine ⟨h1.trans (hb.mono h1.size), E, fun e he => ⟨(h2 e he).1, Nat.lt_of_lt_of_le (h2 e he).2 hs⟩, fun ad cap L e => ?_, fun q e => (h4 q e).below hb, fun t2 c2 e x hx => ?_⟩
  · rcases h3 ad cap L e with h | ⟨g, hg, hr⟩
    · exact .inl h
    · exact .inr ⟨g, hg, hr.below hb⟩
  · exact h5 t2 c2 e x fun k k1 k2 => (hx k (by omega) k2).trans (hb.block k k1)
theorem St.setB {q : Nat} (h : St w1 u c a none) (hq : IsRus u (.slice (some ⟨q, 0, none⟩) 1 1) [Mt.denyR]) : St w1 u c a (some q) := by
  obtain ⟨h1, E, h2, h3, h4, h5⟩ := h
  exact ⟨h1, E, h2, h3, fun q' e => by cases e; exact hq, h5⟩
theorem St.setA {ad : Option Addr} {cap g : Nat} {L : List Mt.Ru} (h : St w1 u c none b) (hg : w1.heap.size ≤ g ∧ g < u.heap.size) (hc : ∀ tv cv, c = some (tv, cv) → ∀ u', (∀ k, k < u.heap.size → k ≠ g → u'.heap[k]? = u.heap[k]?) → IsSc u' tv cv Mt.core) (hr : IsRw 54 6 u g (.slice ad L.length cap) L.length (ruCells L)) : St w1 u c (some (ad, cap, L)) b := by
  obtain ⟨h1, E, h2, h3, h4, h5⟩ := h
  exact ⟨h1, fun k => k = g, fun e he => by subst he; exact hg, fun ad' cap' L' e => by cases e; exact .inr ⟨g, rfl, hr⟩, h4, hc⟩
theorem St.bld (h : St w1 u c a none) : St w1 (u.alloc (.cells #[.int .i64 0, .string ⟨#[]⟩, .string ⟨#[]⟩, .string ⟨#[]⟩, .int .i64 15, .bool false] 54)) c a (some u.heap.size) :=
  (h.stay ((Below.refl _ u).alloc (Nat.le_refl _) _)).setB (IsRw.rus (r := [Mt.denyR]) (IsRus.deny (heap_alloc_new u _)))
theorem St.bldA (h : St w1 u c none none) : St w1 (u.alloc (.cells #[.int .i64 0, .string ⟨#[]⟩, .string ⟨#[]⟩, .string ⟨#[]⟩, .int .i64 15, .bool false] 54)) c (some (some ⟨u.heap.size, 0, none⟩, 1, [Mt.denyR])) none := by
  have hb := (Below.refl u.heap.size u).alloc (Nat.le_refl _) (.cells #[.int .i64 0, .string ⟨#[]⟩, .string ⟨#[]⟩, .string ⟨#[]⟩, .int .i64 15, .bool false] 54)
  refine (h.stay hb).setA (g := u.heap.size) ⟨h.1.size, by simp⟩ (fun tv cv e u' hu => ?_) (IsRus.deny (heap_alloc_new u _))
  obtain ⟨h1, E, h2, h3, h4, h5⟩ := h
  exact h5 tv cv e u' fun k k1 k2 => (hu k (Nat.lt_of_lt_of_le k1 hb.size) (by omega)).trans (hb.block k k1)
/-- Rules behind a row of the call's own. -/
theorem St.app2 {ad : Option Addr} {cap n m : Nat} {L M : List Mt.Ru} {x : Value} (h : St w1 u c (some (ad, cap, L)) b) (hx : IsRus u x M) (hn : L.length = n) (hm : M.length = m) (hl : (n + m) * 72 ≤ 140737488355328) :
    ∃ a1 c1 u1, (∀ ty, (Builtin.append_ #[24, 24] ty #[.slice ad n cap, x]).run Tryz.prog u = .ok (.slice a1 (n + m) c1) u1) ∧ St w1 u1 c (some (a1, c1, L ++ M)) none := by
  subst hn hm
  obtain ⟨i0, hi, hz0, hz1, hz2⟩ := info_parts Tryz.infoRule
  obtain ⟨h1, E, h2, h3, h4, h5⟩ := h
  obtain ⟨g, hg, hrw, hE⟩ : ∃ g, w1.heap.size ≤ g ∧ IsRw 54 6 u g (.slice ad L.length cap) L.length (ruCells L) ∧ (E g ∨ g = u.heap.size) := by
    rcases h3 ad cap L rfl with ⟨rfl, rfl, rfl⟩ | ⟨g, hg, hr⟩
    · exact ⟨u.heap.size, h1.size, IsRw.nil _ _ _ _, .inr rfl⟩
    · exact ⟨g, (h2 g hg).1, hr, .inl hg⟩
  obtain ⟨v', w', g', hrun, hrw', hg', ho⟩ := rw_append (T := 24) (tx := 24) Tryz.underlying24 hi hz0 hz1 hz2 rfl hrw (ruCells_one _) x M.length (ruCells M) (by rw [hz1]; exact src_rus hx) (by omega) (by omega)
  obtain ⟨a', c', rfl⟩ := hrw'.form
  rw [← ruCells_app, ← List.length_append] at hrw'
  have hb : Below w1.heap.size u w' := ho.toBelow (by simpa using hg) h1.size
  refine ⟨a', c', w', hrun, h1.trans hb, fun k => E k ∨ (k = u.heap.size ∧ k < w'.heap.size), fun e he => ?_, fun ad' cap' L' e => ?_, fun q e => (by cases e), fun tv cv e u' hu => ?_⟩
  · rcases he with he | ⟨rfl, he⟩
    · exact ⟨(h2 e he).1, Nat.lt_of_lt_of_le (h2 e he).2 hb.size⟩
    · exact ⟨h1.size, he⟩
  · cases e
    by_cases h0 : L ++ M = []
    · rw [h0] at hrw' ⊢
      rcases hrw'.2 with ⟨-, h8⟩ | h8
      · cases h8; exact .inl ⟨rfl, rfl, rfl⟩
      · obtain ⟨off, cap, cur, e1, e2, -⟩ := h8
        have hlt := lt_of_block e2
        refine .inr ⟨g', ?_, hrw'⟩
        rcases hg' with rfl | rfl
        · rcases hE with hE | hE
          · exact .inl hE
          · exact .inr ⟨hE, hlt⟩
        · exact .inr ⟨rfl, hlt⟩
    · have hlt := hrw'.lt13 (by intro h; exact h0 (List.eq_nil_of_length_eq_zero h))
      refine .inr ⟨g', ?_, hrw'⟩
      rcases hg' with rfl | rfl
      · rcases hE with hE | hE
        · exact .inl hE
        · exact .inr ⟨hE, hlt⟩
      · exact .inr ⟨rfl, hlt⟩
  · refine h5 tv cv e u' fun k k1 k2 => ?_
    have hne : k ≠ g := by
      rintro rfl
      rcases hE with hE | hE
      · exact k2 hE
      · omega
    rw [hu k (Nat.lt_of_lt_of_le k1 hb.size) (fun h => by rcases h with h | h; exact k2 h; omega)]
    exact ho.block k k1 (by simpa using hne)
/-- A copy of rules. -/
theorem St.app1 {m : Nat} {M : List Mt.Ru} {x : Value} (h : St w1 u c none b) (hx : IsRus u x M) (hm : M.length = m) (hl : m * 72 ≤ 140737488355328) :
    ∃ a1 c1 u1, (∀ ty, (Builtin.append_ #[24, 24] ty #[.slice none 0 0, x]).run Tryz.prog u = .ok (.slice a1 m c1) u1) ∧ St w1 u1 c (some (a1, c1, M)) b := by
  subst hm
  obtain ⟨i0, hi, hz0, hz1, hz2⟩ := info_parts Tryz.infoRule
  obtain ⟨v', w', g', hrun, hrw', hg', ho⟩ := rw_append (T := 24) (tx := 24) Tryz.underlying24 hi hz0 hz1 hz2 rfl (IsRw.nil 54 6 u u.heap.size) (by simp) x M.length (ruCells M) (by rw [hz1]; exact src_rus hx) (by omega) (by omega)
  obtain ⟨a', c', rfl⟩ := hrw'.form
  rw [Nat.zero_add] at hrun hrw'
  rw [List.nil_append] at hrw'
  have hb : Below u.heap.size u w' := ho.toBelow (by simp) (Nat.le_refl _)
  have hg2 : g' = u.heap.size := by rcases hg' with h | h <;> exact h
  subst hg2
  refine ⟨a', c', w', hrun, ?_⟩
  have hst := h.stay hb
  by_cases h0 : M = []
  · subst h0
    rcases hrw'.2 with ⟨-, h8⟩ | h8
    · cases h8
      obtain ⟨h1, E, h2, h3, h4, h5⟩ := hst
      exact ⟨h1, E, h2, fun ad cap L e => (by cases e; exact .inl ⟨rfl, rfl, rfl⟩), h4, h5⟩
    · obtain ⟨off, cap, cur, e1, e2, -⟩ := h8
      refine hst.setA (g := u.heap.size) ⟨h.1.size, lt_of_block e2⟩ (fun tv cv e u' hu => ?_) hrw'
      obtain ⟨h1, E, h2, h3, h4, h5⟩ := h
      exact h5 tv cv e u' fun k k1 k2 => (hu k (Nat.lt_of_lt_of_le k1 hb.size) (by omega)).trans (hb.block k k1)
  · refine hst.setA (g := u.heap.size) ⟨h.1.size, hrw'.lt13 (by intro h; exact h0 (List.eq_nil_of_length_eq_zero h))⟩ (fun tv cv e u' hu => ?_) hrw'
    obtain ⟨h1, E, h2, h3, h4, h5⟩ := h
    exact h5 tv cv e u' fun k k1 k2 => (hu k (Nat.lt_of_lt_of_le k1 hb.size) (by omega)).trans (hb.block k k1)
theorem St.fin {tv cv : Value} {ad : Option Addr} {cap n : Nat} {L : List Mt.Ru} (h : St w1 u (some (tv, cv)) (some (ad, cap, L)) b) (hn : L.length = n) : IsSc u tv cv Mt.core ∧ IsRus u (.slice ad n cap) L := by
  subst hn
  obtain ⟨h1, E, h2, h3, h4, h5⟩ := h
  refine ⟨h5 tv cv rfl u fun _ _ _ => rfl, ?_⟩
  rcases h3 ad cap L rfl with ⟨rfl, rfl, rfl⟩ | ⟨g, -, hr⟩
  · exact ⟨none, 0, rfl, by simp, Lib.hid fun j hj => absurd hj (by simp)⟩
  · exact hr.rus
theorem step_app1 {ops : Array Oper} {o : Oper} {aa : Act} {K : Act → World → Prop} {Q : Exit → Act → World → Prop} {X : Prop} {m : Nat} {M : List Mt.Ru} {x : Value} (h : St w1 u c none b) (hx : IsRus u x M) (hm : M.length = m) (hl : m * 72 ≤ 140737488355328)
    (hg : o.guard = none) (s y : Operand) (hop : o.op = Op.call { callee := Callee.builtin Builtin.append, args := #[s, y], argTypes := #[24, 24] }) (hs : aa.eval s = .slice none 0 0) (hy : aa.eval y = x)
    (hK : ∀ a1 c1 u1, St w1 u1 c (some (a1, c1, M)) b → K (aa.put o.dst (.slice a1 m c1)) u1) : if Region.wanted o (yielded ops aa.tmps) = true then Oper.wp Tryz.prog o aa u K Q else X := by
  obtain ⟨a1, c1, u1, hrun, hst⟩ := h.app1 hx hm hl
  exact step_append_eq hg s y 24 24 hop _ _ hs hy hrun (hK a1 c1 u1 hst)
theorem step_app2 {ops : Array Oper} {o : Oper} {aa : Act} {K : Act → World → Prop} {Q : Exit → Act → World → Prop} {X : Prop} {ad : Option Addr} {cap n m k : Nat} {L M : List Mt.Ru} {x : Value} (h : St w1 u c (some (ad, cap, L)) b) (hx : IsRus u x M) (hn : L.length = n) (hm : M.length = m) (hk : n + m = k) (hl : k * 72 ≤ 140737488355328)
    (hg : o.guard = none) (s y : Operand) (hop : o.op = Op.call { callee := Callee.builtin Builtin.append, args := #[s, y], argTypes := #[24, 24] }) (hs : aa.eval s = .slice ad n cap) (hy : aa.eval y = x)
    (hK : ∀ a1 c1 u1, St w1 u1 c (some (a1, c1, L ++ M)) none → K (aa.put o.dst (.slice a1 k c1)) u1) : if Region.wanted o (yielded ops aa.tmps) = true then Oper.wp Tryz.prog o aa u K Q else X := by
  subst hk
  obtain ⟨a1, c1, u1, hrun, hst⟩ := h.app2 hx hn hm hl
  exact step_append_eq hg s y 24 24 hop _ _ hs hy hrun (hK a1 c1 u1 hst)
theorem St.row {q : Nat} (h : St w1 u c a (some q)) : IsRus u (.slice (some ⟨q, 0, none⟩) 1 1) [Mt.denyR] := by
  obtain ⟨h1, E, h2, h3, h4, h5⟩ := h
  exact h4 q rfl
end
end Go.Proofs.YtngdbhncafnliaaGreat

/-
  Books of rules that may be, side by side.
-/
namespace Go.Proofs.YtngdbhncafnliaaGreat
open Go.RowKit
set_option linter.unusedVariables false

/-- A book of these rules. -/
def IsB (w : World) (admin : List (List Mt.Av)) (p : Nat) (l : List Mt.Ru) : Prop := ∃ cs, Mt.newA Mt.core admin l = .ok cs ∧ IsBk w (.pointer (some ⟨p, 0, none⟩)) cs
theorem IsB.below {w u : World} {admin : List (List Mt.Av)} {p : Nat} {l : List Mt.Ru} (h : IsB w admin p l) (hb : Below w.heap.size w u) : IsB u admin p l := by
  obtain ⟨cs, h1, h2⟩ := h
  exact ⟨cs, h1, h2.below hb⟩
theorem rcore22_far (w : World) : Calls Tryz.prog 11 #[] w fun e w' => ∃ ta tn tc ca cn cc, e = .returned (.agg #[.slice ta tn tc, .slice ca cn cc]) ∧ (∀ u, (∀ b, w.heap.size < b → b < w'.heap.size → u.heap[b]? = w'.heap[b]?) → IsSc u (.slice ta tn tc) (.slice ca cn cc) Mt.core) ∧ Below w.heap.size w w' :=
  (rcore13_far w).mono fun e w' ⟨tv, cv, h1, h2, h3⟩ => by
    have h := h2 w' (fun _ _ _ => rfl)
    obtain ⟨ta, tc, rfl, -, -⟩ := h.types
    obtain ⟨ca, cc, rfl, -, -⟩ := h.classes
    exact ⟨_, _, _, _, _, _, h1, h2, h3⟩
theorem newB_any {admin : List (List Mt.Av)} {rs cs : List Mt.Ru} (hn : Mt.newA Mt.core admin rs = .ok cs) (hf : ∀ r ∈ rs, Mt.FitRu r) (l : List Mt.Ru) (hl : ∀ r ∈ l, r ∈ rs ∨ r = Mt.denyR) {u : World} {tv cv av rv : Value} (hs : IsSc u tv cv Mt.core) (ha : IsDn u av admin) (hr : IsRus u rv l) (hb : l.length * 72 ≤ 140737488355000) :
    Calls Tryz.prog 10 #[.agg #[tv, cv], av, rv] u fun e w' => ∃ p, e = .returned (.tuple #[.pointer (some ⟨p, 0, none⟩), .int .i64 0]) ∧ IsB w' admin p l ∧ Below u.heap.size u w' := by
  have hok : ∀ r ∈ l, ∃ c, Mt.rdRu Mt.core r = .ok c := fun r hr => by
    rcases hl r hr with h | rfl
    · exact Mt.new_all hn r h
    · exact Mt.rd_deny
  have hft : ∀ r ∈ l, Mt.FitRu r := fun r hr => by
    rcases hl r hr with h | rfl
    · exact hf r h
    · exact Mt.fit_deny
  obtain ⟨cs', hcs⟩ := Mt.new_of hn l hok
  refine (new22_big hs ha hr hft hb).mono fun e w' ⟨h1, h2⟩ => ?_
  rcases h1.two with ⟨x, h3, -⟩ | ⟨cs2, p, h3, h4, h5⟩
  · rw [hcs] at h3; cases h3
  · exact ⟨p, h4, ⟨cs2, h3, h5⟩, h2⟩
theorem mayB_any {admin who entry : List (List Mt.Av)} {l : List Mt.Ru} {att : List UInt8} {right : Int} {u : World} {p : Nat} {v2 v3 : Value} (h : IsB u admin p l) (hw : IsDn u v2 who) (he : IsDn u v3 entry) (h1 : who.length ≤ 140737488355327) (h2 : entry.length ≤ 140737488355327) (ha : att.length ≤ 140737488351232) :
    Calls Tryz.prog 13 #[.pointer (some ⟨p, 0, none⟩), v2, v3, .string (Mt.str att), .int .i64 right] u fun e w' => e = .returned (.bool (Mt.rmayA admin l who entry att right)) ∧ Below u.heap.size u w' := by
  obtain ⟨cs, hn, hb⟩ := h
  rw [← Mt.may_eq hn]; exact may22_any right hb hw he h1 h2 att ha
end Go.Proofs.YtngdbhncafnliaaGreat

/-
  Attributes in memory; rows of them as a call builds them up.
-/
namespace Go.Proofs.YtngdbhncafnliaaGreat
open Go.RowKit
set_option linter.unusedVariables false

/-- An attribute: a name and values. -/
abbrev Mt.At := List UInt8 × List (List UInt8)
theorem Tryz.infoAttr : (Tryz.prog.info? 49).map (fun i => (i.zero, i.size, i.bytes)) = some (some (.agg #[.string ByteArray.empty, .slice none 0 0]), 2, 40) := by kernel_rfl
/-- Attributes in a slice. -/
def IsAts (w : World) (v : Value) (l : List Mt.At) : Prop := ∃ a cap, v = .slice a l.length cap ∧ l.length ≤ cap ∧ Hid (∀ j (hj : j < l.length), ∃ b off x, a = some ⟨b, off, none⟩ ∧ b < w.heap.size ∧ w.cell? ⟨b, off + j * 2, none⟩ = some (.string (Mt.str l[j].1)) ∧ w.cell? ⟨b, off + j * 2 + 1, none⟩ = some x ∧ IsNms w x l[j].2)
theorem IsAts.below {w u : World} {v : Value} {l : List Mt.At} (h : IsAts w v l) (hb : Below w.heap.size w u) : IsAts u v l := by
  obtain ⟨a, cap, e, hc, h⟩ := h
  refine ⟨a, cap, e, hc, Lib.hid fun j hj => ?_⟩
  obtain ⟨b, off, x, h0, h1, h2, h3, h4⟩ := h.out j hj
  exact ⟨b, off, x, h0, Nat.lt_of_lt_of_le h1 hb.size, (hb.cell (p := ⟨b, _, none⟩) h1).trans h2, (hb.cell (p := ⟨b, _, none⟩) h1).trans h3, h4.below hb⟩
/-- Names hang on the blocks that were there. -/
theorem IsNms.same {w u : World} {v : Value} {l : List (List UInt8)} (h : IsNms w v l) (hu : ∀ b, b < w.heap.size → u.heap[b]? = w.heap[b]?) : IsNms u v l := by
  obtain ⟨a, cap, e, hc, h⟩ := h
  refine ⟨a, cap, e, hc, Lib.hid fun j hj => ?_⟩
  obtain ⟨b, off, h0, h1, h2⟩ := h.out j hj
  have hl : b < u.heap.size := by
    have h3 := hu b h1
    rw [Array.getElem?_eq_getElem h1] at h3
    rcases Nat.lt_or_ge b u.heap.size with h | h
    · exact h
    · rw [Array.getElem?_eq_none h] at h3; cases h3
  refine ⟨b, off, h0, hl, ?_⟩
  rw [← h2]
  unfold World.cell?
  rw [hu b h1]
def atCells (C : List (Mt.At × Value)) : List Value := C.flatMap fun p => [.string (Mt.str p.1.1), p.2]
theorem atCells_app (a b : List (Mt.At × Value)) : atCells (a ++ b) = atCells a ++ atCells b := by simp [atCells]
theorem atCells_len (a : List (Mt.At × Value)) : (atCells a).length = a.length * 2 := by
  induction a with
  | nil => rfl
  | cons x a ih => show ([Value.string (Mt.str x.1.1), x.2] ++ atCells a).length = _; rw [List.length_append, ih]; simp only [List.length_cons, List.length_nil]; omega
theorem atCells_get : ∀ (r : List (Mt.At × Value)) (j : Nat) (hj : j < r.length), (atCells r)[j * 2]? = some (.string (Mt.str r[j].1.1)) ∧ (atCells r)[j * 2 + 1]? = some r[j].2
  | [], j, hj => absurd hj (Nat.not_lt_zero j)
  | x :: r, 0, _ => ⟨rfl, rfl⟩
  | x :: r, j + 1, hj => by
    obtain ⟨h1, h2⟩ := atCells_get r j (by simpa using hj)
    have e : ∀ k, (atCells (x :: r))[(j + 1) * 2 + k]? = (atCells r)[j * 2 + k]? := fun k => by
      show ([Value.string (Mt.str x.1.1), x.2] ++ atCells r)[(j + 1) * 2 + k]? = _
      rw [List.getElem?_append_right (by show 2 ≤ _; omega)]
      congr 1
      show (j + 1) * 2 + k - 2 = _
      omega
    exact ⟨(e 0).trans h1, (e 1).trans h2⟩
theorem atCells_one {C : List (Mt.At × Value)} (h : ∀ p ∈ C, p.2.oneCell' = true) : ∀ u ∈ atCells C, u.oneCell' = true := by
  intro u hu
  unfold atCells at hu
  obtain ⟨r, hr, h2⟩ := List.mem_flatMap.1 hu
  simp only [List.mem_cons, List.not_mem_nil, or_false] at h2
  rcases h2 with rfl | rfl
  · rfl
  · exact h r hr
theorem IsNms.one {w : World} {v : Value} {l : List (List UInt8)} (h : IsNms w v l) : v.oneCell' = true := by
  obtain ⟨a, cap, rfl, -⟩ := h; rfl
/-- Attributes that a call has put together: their row lies from lo on, their values in no block of that row. -/
def AtS (lo : Nat) (u : World) (v : Value) (L : List Mt.At) : Prop := ∃ C g, C.map (·.1) = L ∧ lo ≤ g ∧ IsRw 49 2 u g v C.length (atCells C) ∧ (g < u.heap.size ∨ C = []) ∧ ∀ p ∈ C, ∀ u', (∀ b, b < u.heap.size → b ≠ g → u'.heap[b]? = u.heap[b]?) → IsNms u' p.2 p.1.2
section
variable {lo : Nat} {u u1 : World} {v : Value} {L : List Mt.At}
theorem AtS.nil (lo : Nat) (u : World) : AtS lo u (.slice none 0 0) [] := ⟨[], lo, rfl, Nat.le_refl _, IsRw.nil _ _ _ _, .inr rfl, by simp⟩
theorem AtS.low {lo2 : Nat} (h : AtS lo u v L) (hlo : lo2 ≤ lo) : AtS lo2 u v L := by
  obtain ⟨C, g, h1, h2, h3⟩ := h
  exact ⟨C, g, h1, Nat.le_trans hlo h2, h3⟩
theorem AtS.form (h : AtS lo u v L) : ∃ a c, v = .slice a L.length c := by
  obtain ⟨C, g, rfl, -, h, -⟩ := h
  obtain ⟨a, c, rfl⟩ := h.form
  exact ⟨a, c, by rw [List.length_map]⟩
theorem AtS.below {w' : World} (h : AtS lo u v L) (hb : Below u.heap.size u w') : AtS lo w' v L := by
  obtain ⟨C, g, h1, h2, h3, h4, h5⟩ := h
  refine ⟨C, g, h1, h2, h3.below hb, ?_, fun p hp u' hu => h5 p hp u' fun b b1 b2 => (hu b (Nat.lt_of_lt_of_le b1 hb.size) b2).trans (hb.block b b1)⟩
  rcases h4 with h | h
  · exact .inl (Nat.lt_of_lt_of_le h hb.size)
  · exact .inr h
theorem AtS.ats (h : AtS lo u v L) : IsAts u v L := by
  obtain ⟨C, g, rfl, h2, h3, h4, h5⟩ := h
  obtain ⟨hl, h⟩ := id h3
  rcases h with ⟨h0, rfl⟩ | ⟨off, cap, cur, rfl, e2, e3, e4, e5⟩
  · have : C = [] := List.eq_nil_of_length_eq_zero h0
    subst this
    exact ⟨none, 0, rfl, by simp, Lib.hid fun j hj => absurd hj (by simp)⟩
  · refine ⟨_, cap, by rw [List.length_map], by rw [List.length_map]; exact e3, Lib.hid fun j hj => ?_⟩
    rw [List.length_map] at hj
    obtain ⟨c0, c1⟩ := atCells_get C j hj
    have hlen := atCells_len C
    have get : ∀ k, k < 2 → u.cell? ⟨g, off + j * 2 + k, none⟩ = (atCells C)[j * 2 + k]? := fun k hk => by
      rw [cell_of_row u g _ cur 49 (0, 0) e2, Nat.add_assoc, e5 (j * 2 + k) (by rw [hlen]; omega), List.getElem?_eq_getElem (by rw [hlen]; omega)]
    refine ⟨g, off, C[j].2, rfl, lt_of_block e2, ?_, (get 1 (by omega)).trans c1, ?_⟩
    · rw [List.getElem_map]; exact (get 0 (by omega)).trans c0
    · rw [List.getElem_map]; exact h5 _ (List.getElem_mem hj) u fun _ _ _ => rfl
/-- One more: its values lie in blocks that were there at lo, or in such as came since. -/
theorem at_push {n q : Nat} {ua : World} {x : Value} {nm : List UInt8} {ns : List (List UInt8)} (h : AtS lo u1 v L) (hn : L.length = n) (hb : Below u1.heap.size u1 u) (hlo : lo ≤ u1.heap.size) (hx : ∀ u', (∀ b, b < u.heap.size → (lo ≤ b → u1.heap.size ≤ b) → u'.heap[b]? = u.heap[b]?) → IsNms u' x ns) (hl : (n + 1) * 40 ≤ 140737488355328) (hua : Below u.heap.size u ua) (hrow : ua.heap[q]? = some (.cells #[.string (Mt.str nm), x] 49)) :
    ∃ a3 c3 u3, (∀ ty, (Builtin.append_ #[41, 41] ty #[v, .slice (some ⟨q, 0, none⟩) 1 1]).run Tryz.prog ua = .ok (.slice a3 (n + 1) c3) u3) ∧ AtS lo u3 (.slice a3 (n + 1) c3) (L ++ [(nm, ns)]) ∧ Below lo u1 u3 ∧ ∀ b, b < ua.heap.size → (lo ≤ b → u1.heap.size ≤ b) → u3.heap[b]? = ua.heap[b]? := by
  obtain ⟨C, g, rfl, h2, h3, h4, h5⟩ := h
  rw [List.length_map] at hn
  subst hn
  obtain ⟨i0, hi, hz0, hz1, hz2⟩ := info_parts Tryz.infoAttr
  have hbu := hb.trans (hua.mono hb.size)
  have hxa := hx u fun _ _ _ => rfl
  have hone : ∀ p ∈ C, p.2.oneCell' = true := fun p hp => (h5 p hp u1 fun _ _ _ => rfl).one
  obtain ⟨g0, hg0, hrw, hlt⟩ : ∃ g0, lo ≤ g0 ∧ IsRw 49 2 ua g0 v C.length (atCells C) ∧ ((g0 = g ∧ g < u1.heap.size) ∨ (g0 = ua.heap.size ∧ C = [])) := by
    rcases h4 with h | rfl
    · exact ⟨g, h2, h3.below hbu, .inl ⟨rfl, h⟩⟩
    · obtain ⟨a, c, e⟩ := h3.form
      rcases h3.norm ua.heap.size with h | h
      · exact ⟨g, h2, h3.below hbu, .inl ⟨rfl, h⟩⟩
      · refine ⟨ua.heap.size, Nat.le_trans hlo hbu.size, ?_, .inr ⟨rfl, rfl⟩⟩
        rcases h.2 with ⟨-, h8⟩ | ⟨off, cap, cur, e1, e2, -⟩
        · rw [h8]; exact IsRw.nil _ _ _ _
        · have := lt_of_block e2
          have := hbu.size
          omega
  have src : Src Tryz.prog i0.size 41 (.slice (some ⟨q, 0, none⟩) 1 1) 1 (atCells [((nm, ns), x)]) ua := by
    refine Src.ofSlice ua Tryz.underlying41 ⟨q, 0, none⟩ 1 1 _ (by rw [hz1]; rfl) (fun j y hy => ?_) (atCells_one (by simpa using hxa.one))
    rw [add_off, cell_of_row _ _ _ _ _ _ hrow, Nat.zero_add, ← hy]
    exact List.getElem?_toArray.symm ▸ rfl
  obtain ⟨v', u3, g', hrun, hrw', hg', ho⟩ := rw_append (T := 41) (tx := 41) Tryz.underlying41 hi hz0 hz1 hz2 rfl hrw (atCells_one hone) _ 1 _ src (by omega) (by omega)
  obtain ⟨a', c', rfl⟩ := hrw'.form
  rw [← atCells_app] at hrw'
  have hlt' := hrw'.lt13 (by omega)
  refine ⟨a', c', u3, hrun, ⟨C ++ [((nm, ns), x)], g', by simp, ?_, by rw [List.length_append]; exact hrw', .inl hlt', fun p hp u' hu => ?_⟩, ?_, fun b b1 b2 => ?_⟩
  · rcases hg' with rfl | rfl
    · exact hg0
    · exact Nat.le_trans hlo hbu.size
  · rcases List.mem_append.1 hp with hp | hp
    · have hC : C ≠ [] := by rintro rfl; simp at hp
      have hgg : g0 = g ∧ g < u1.heap.size := by
        rcases hlt with h | h
        · exact h
        · exact absurd h.2 hC
      refine h5 p hp u' fun b b1 b2 => ?_
      have hs := hbu.size
      have hne : b ≠ g0 := by rw [hgg.1]; exact b2
      rw [hu b (Nat.lt_of_lt_of_le (Nat.lt_of_lt_of_le b1 hs) ho.size) (by rcases hg' with rfl | rfl; exact hne; omega), ho.block b (Nat.lt_of_lt_of_le b1 hs) (by simpa using hne)]
      exact hbu.block b b1
    · have hp' : p = ((nm, ns), x) := by simpa using hp
      subst hp'
      refine hx u' fun b b1 b2 => ?_
      have hs := hua.size
      have hs1 := hbu.size
      have hne : b ≠ g0 := by
        rcases hlt with ⟨rfl, h⟩ | ⟨rfl, -⟩
        · intro e; subst e; have := b2 h2; omega
        · omega
      rw [hu b (Nat.lt_of_lt_of_le (Nat.lt_of_lt_of_le b1 hs) ho.size) (by rcases hg' with rfl | rfl; exact hne; omega), ho.block b (Nat.lt_of_lt_of_le b1 hs) (by simpa using hne)]
      exact hua.block b b1
  · exact (hbu.mono hlo).trans (ho.toBelow (by simpa using hg0) (Nat.le_trans hlo hbu.size))
  · have hne : b ≠ g0 := by
      rcases hlt with ⟨rfl, h⟩ | ⟨rfl, -⟩
      · intro e; subst e; have := b2 h2; omega
      · omega
    exact ho.block b b1 (by simpa using hne)
end
end Go.Proofs.YtngdbhncafnliaaGreat

/-
  The document's Same of attributes that are the same; whether attributes are few.
-/
namespace Go.Proofs.YtngdbhncafnliaaGreat
open Go.RowKit
set_option linter.unusedVariables false

set_option maxRecDepth 100000 in
set_option maxHeartbeats 4000000 in
theorem same14_any {w : World} {v1 v2 : Value} {l : List Mt.At} (h1 : IsAts w v1 l) (h2 : IsAts w v2 l) (hal : l.length * 40 ≤ 140737488355328) (hnl : ∀ a ∈ l, a.1.length ≤ 140737488351232 ∧ a.2.length ≤ 8796093022208) :
    Calls Tryz.prog 19 #[v1, v2] w fun e w' => e = .returned (.bool true) ∧ Below w.heap.size w w' := by
  obtain ⟨a1, c1, rfl, hc1, HX⟩ := h1
  obtain ⟨a2, c2, rfl, hc2, HY⟩ := h2
  obtain ⟨n, hn⟩ : ∃ n, l.length = n := ⟨_, rfl⟩
  have HN := Lib.hid hn
  have HNL := Lib.hid hnl
  rw [hn] at hc1 hc2 hal ⊢
  have d0 : ((n : Int) != (n : Int)) = false := by simp
  clear hn hnl
  go_enter Tryz.func19, Tryz.ntmps19
  go_wp2_with fail
  go_loopw [14] (fun iv wr => ∃ i : Nat, i ≤ n ∧ iv = .int .i64 (i : Int) ∧ Hid (Below w.heap.size w wr)) (fun iv _ => n - (intOf iv).toNat)
  case atStart => exact ⟨0, Nat.zero_le _, rfl, Lib.hid (Below.refl _ _)⟩
  case round =>
    obtain ⟨i, hi, rfl, HB⟩ := hrel
    by_cases hlt : i < n
    · have e1 : decide ((i : Int) < (n : Int)) = true := decide_eq_true (by omega)
      have e2 : decide (i < n) = true := decide_eq_true hlt
      have i0 : (0 : Int) ≤ (i : Int) := by omega
      have i1 : (i : Int) < (n : Int) := by omega
      have hil : i < l.length := by rw [HN.out]; exact hlt
      obtain ⟨b1, o1, x, e3, hb1, hx0, hx1, hxn⟩ := HX.out i hil
      obtain ⟨b2, o2, y, e4, hb2, hy0, hy1, hyn⟩ := HY.out i hil
      subst e3 e4
      have hni := (HNL.out _ (List.getElem_mem hil)).2
      obtain ⟨p, hp⟩ : ∃ p, l[i] = p := ⟨_, rfl⟩
      rw [hp] at hx0 hxn hy0 hyn hni
      obtain ⟨nm, ns⟩ := p
      simp only at hx0 hxn hy0 hyn hni
      obtain ⟨xa, xc, rfl, hxc, HYtngdbhncafnliaaGreat⟩ := hxn
      obtain ⟨ya, yc, rfl, hyc, HYN⟩ := hyn
      obtain ⟨k, hk⟩ : ∃ k, ns.length = k := ⟨_, rfl⟩
      have HK := Lib.hid hk
      rw [hk] at hx1 hy1 hxc hyc hni
      generalize Mt.str nm = P at *
      have HC : Hid (∀ u, Below w.heap.size w u → u.cell? ⟨b1, o1 + i * 2, none⟩ = some (.string P) ∧ u.cell? ⟨b1, o1 + i * 2 + 1, none⟩ = some (.slice xa k xc) ∧ u.cell? ⟨b2, o2 + i * 2, none⟩ = some (.string P) ∧ u.cell? ⟨b2, o2 + i * 2 + 1, none⟩ = some (.slice ya k yc)) := Lib.hid (fun u hu => ⟨(hu.cell (p := ⟨b1, o1 + i * 2, none⟩) hb1).trans hx0, (hu.cell (p := ⟨b1, o1 + i * 2 + 1, none⟩) hb1).trans hx1, (hu.cell (p := ⟨b2, o2 + i * 2, none⟩) hb2).trans hy0, (hu.cell (p := ⟨b2, o2 + i * 2 + 1, none⟩) hb2).trans hy1⟩)
      have e5 : (P.toList == P.toList) = true := beq_self_eq_true _
      have e6 : ((k : Int) != (k : Int)) = false := by simp
      obtain ⟨x0, x1, y0, y1⟩ := HC.out wr HB.out
      clear hx0 hx1 hy0 hy1 hb1 hb2 hil hp hk
      go_upto_region 6 with fail
      go_quiet (fail)
      have HB2 := Lib.hid (Below.drewK HB.out nq)
      generalize wr.drewN nq = wr2 at *
      clear x0 x1 y0 y1
      obtain ⟨x0, x1, y0, y1⟩ := HC.out wr2 HB2.out
      go_wp2_with fail
      go_loopw [49] (fun iv wi => ∃ j : Nat, j ≤ k ∧ iv = .int .i64 (j : Int) ∧ Hid (Below w.heap.size w wi)) (fun iv _ => k - (intOf iv).toNat)
      case atStart => exact ⟨0, Nat.zero_le _, rfl, HB2⟩
      case round =>
        obtain ⟨j, hj, rfl, HBI⟩ := hrel
        clear x0 x1 y0 y1
        obtain ⟨x0, x1, y0, y1⟩ := HC.out wr HBI.out
        by_cases hjl : j < k
        · have e7 : decide ((j : Int) < (k : Int)) = true := decide_eq_true (by omega)
          have e8 : decide (j < k) = true := decide_eq_true hjl
          have j0 : (0 : Int) ≤ (j : Int) := by omega
          have j1 : (j : Int) < (k : Int) := by omega
          have hjn : j < ns.length := by rw [HK.out]; exact hjl
          obtain ⟨bx, ox, e3, hbx, hcx⟩ := HYtngdbhncafnliaaGreat.out j hjn
          obtain ⟨bY, oy, e4, hby, hcy⟩ := HYN.out j hjn
          subst e3 e4
          have z0 := (HBI.out.cell (p := ⟨bx, ox + j, none⟩) hbx).trans hcx
          have z1 := (HBI.out.cell (p := ⟨bY, oy + j, none⟩) hby).trans hcy
          generalize Mt.str ns[j] = T at *
          have e9 : (T.toList == T.toList) = true := beq_self_eq_true _
          clear hbx hcx hby hcy hjn
          go_upto_region 11 with fail
          go_quiet (fail)
          go_wp2_with fail
          go_roundw
          case rel => exact ⟨j + 1, by omega, by go_num, Lib.hid (Below.drewK HBI.out nq)⟩
          case measure => simp [intOf]; omega
        · obtain rfl : j = k := by omega
          have e7 : decide ((j : Int) < (j : Int)) = false := decide_eq_false (by omega)
          have e8 : decide (j < j) = false := decide_eq_false (by omega)
          go_wp2_with fail
          go_roundw
          case rel => exact ⟨i + 1, by omega, by go_num, HBI⟩
          case measure => simp [intOf]; omega
    · obtain rfl : i = n := by omega
      have e1 : decide ((i : Int) < (i : Int)) = false := decide_eq_false (by omega)
      have e2 : decide (i < i) = false := decide_eq_false (by omega)
      go_wp2_with fail
      all_goals (go_ret; exact ⟨rfl, HB.out⟩)
end Go.Proofs.YtngdbhncafnliaaGreat
