/-
  Bytes in a slice, wherever in its block it begins; what append does to them.
-/
import Derived.Test.YtnlbhmjgeedgpaaDoorOnly
import Derived.Deep.AppendSrc
import Derived.Deep.Upon
set_option linter.unusedVariables false
set_option linter.unusedSimpArgs false
namespace Go.Proofs.YtnlbhmjgeedgpaaDoor
open Go.RowKit

/-- Bytes in a slice. -/
def IsByt (w : World) (g : Nat) (v : Value) (l : List UInt8) : Prop :=
  (l = [] ∧ v = .slice none 0 0) ∨ ∃ off cap cur, v = .slice (some ⟨g, off, none⟩) l.length cap ∧ w.heap[g]? = some (.cells cur 5 (0, 0)) ∧ l.length ≤ cap ∧ off + cap ≤ cur.size ∧ ∀ j (hj : j < l.length), cur[off + j]? = some (.int .u8 (l[j].toNat : Int))

theorem IsByt.kept {w u : World} {g : Nat} {v : Value} {l : List UInt8} (h : IsByt w g v l) (hg : u.heap[g]? = w.heap[g]?) : IsByt u g v l := by
  rcases h with h | ⟨off, cap, cur, h1, h2, h3⟩
  · exact .inl h
  · exact .inr ⟨off, cap, cur, h1, hg.trans h2, h3⟩

section
variable {P : Program}
theorem run_append_room_row (w : World) (t tx ty e : TypeId) (i : TypeInfo) (ht : P.underlying t = some (.slice e)) (hi : P.info? e = some i) (hsz : i.size = 1) (g off sLen sCap : Nat) (x : Value) (n : Nat) (news : List Value) (hs : Src P i.size tx x n news w)
    (hroom : sLen + n ≤ sCap) (cur : Array Value) (t' : TypeId) (hg : w.heap[g]? = some (.cells cur t' (0, 0))) (hfit : off + sCap ≤ cur.size) :
    (Builtin.append_ #[t, tx] ty #[.slice (some ⟨g, off, none⟩) sLen sCap, x]).run P w = .ok (.slice (some ⟨g, off, none⟩) (sLen + n) sCap)
      (w.setRow g (cur.toList.take (off + sLen) ++ news ++ cur.toList.drop (off + sLen + n)).toArray) := by
  have hnl : news.length = n := by have := hs.newsLen; rw [hsz] at this; omega
  have hst := run_storeCells_at P g (off + sLen) t' news 0 cur w hg (by simp [hnl]; omega) hs.one
  rw [hnl] at hst
  simp only [Nat.add_zero] at hst
  have hcs := hs.cells
  rw [hsz] at hcs
  rcases hs.kind with ⟨e', hk⟩ | hk <;> simp [Builtin.append_, run_underlying ht, run_underlying hk, sizeOf, typeInfo, hi, hs.len, hroom, hcs, Addr.add_lit, hsz, hst]
end

theorem Mt.cs_get (L : List UInt8) (k : Nat) (h : k < L.length) : (Mt.cs L)[k]? = some (.int .u8 (L[k].toNat : Int)) := by
  simp [Mt.cs, List.getElem?_eq_getElem h]
theorem Mt.cs_eq (s : ByteArray) : byteCells s = Mt.cs s.data.toList := rfl

/-- What append of a text onto bytes comes to. -/
theorem byt_append {w : World} {g : Nat} {v : Value} {l : List UInt8} (h : IsByt w g v l) (s : ByteArray) (hsz : l.length + s.size ≤ 70368744177664) :
    ∃ v' w' g', (∀ ty, (Builtin.append_ #[54, 9] ty #[v, .string s]).run Tryd.prog w = .ok v' w') ∧ IsByt w' g' v' (l ++ s.data.toList) ∧ (g' = g ∨ g' = w.heap.size) ∧ OnlyS [g] w w' := by
  obtain ⟨i0, hi, hz0, hz1, hz2⟩ := info_parts Tryd.infoU8
  have hsl : s.data.toList.length = s.size := rfl
  by_cases h0 : s.size = 0
  · have hs0 : s.data.toList = [] := List.eq_nil_of_length_eq_zero (by omega)
    have src : ∀ u : World, Src Tryd.prog i0.size 9 (.string s) 0 [] u := fun u => by
      have := Src.ofString (P := Tryd.prog) u Tryd.underlying9 s
      rw [Mt.cs_eq, hs0, h0, ← hz1] at this
      exact this
    rcases h with ⟨rfl, rfl⟩ | ⟨off, cap, cur, rfl, h2, h3, h4, h5⟩
    · refine ⟨_, w, g, fun ty => run_append_nothing w 54 9 ty 5 i0 Tryd.underlying54 hi none 0 0 (Nat.le_refl _) _ (src w), .inl ⟨by simp [hs0], rfl⟩, .inl rfl, OnlyS.refl _ _⟩
    · refine ⟨_, w, g, fun ty => run_append_nothing w 54 9 ty 5 i0 Tryd.underlying54 hi _ _ _ h3 _ (src w), .inr ⟨off, cap, cur, by simp [hs0], h2, by simpa [hs0] using h3, h4, ?_⟩, .inl rfl, OnlyS.refl _ _⟩
      simpa [hs0] using h5
  · have src : ∀ u : World, Src Tryd.prog i0.size 9 (.string s) s.size (Mt.cs s.data.toList) u := fun u => by
      have := Src.ofString (P := Tryd.prog) u Tryd.underlying9 s
      rw [Mt.cs_eq, ← hz1] at this
      exact this
    by_cases hroom : ∃ off cap cur, v = .slice (some ⟨g, off, none⟩) l.length cap ∧ w.heap[g]? = some (.cells cur 5 (0, 0)) ∧ l.length + s.size ≤ cap ∧ off + cap ≤ cur.size ∧ ∀ j (hj : j < l.length), cur[off + j]? = some (.int .u8 (l[j].toNat : Int))
    · obtain ⟨off, cap, cur, rfl, h2, h3, h4, h5⟩ := hroom
      refine ⟨_, _, g, fun ty => run_append_room_row w 54 9 ty 5 i0 Tryd.underlying54 hi hz1 g off l.length cap _ s.size _ (src w) h3 cur 5 h2 h4, ?_, .inl rfl, (OnlyS.refl _ _).setRow (by simp) _⟩
      refine .inr ⟨off, cap, _, by rw [List.length_append, hsl], setRow_heap _ _ cur _ 5 (0, 0) h2, by rw [List.length_append, hsl]; exact h3, ?_, ?_⟩
      · rw [List.size_toArray, List.length_append, List.length_append, List.length_take, List.length_drop, Mt.cs_length, hsl, Array.length_toList (xs := cur)]; omega
      · intro j hj
        have ht : (cur.toList.take (off + l.length)).length = off + l.length := by rw [List.length_take, Array.length_toList (xs := cur)]; omega
        rw [List.getElem?_toArray, List.append_assoc]
        by_cases hjl : j < l.length
        · rw [List.getElem?_append_left (by rw [ht]; omega), List.getElem?_take, if_pos (by omega), Array.getElem?_toList, h5 j hjl]
          simp [List.getElem_append_left hjl]
        · rw [List.getElem?_append_right (by rw [ht]; omega), ht]
          have hj2 : off + j - (off + l.length) < s.data.toList.length := by rw [List.length_append] at hj; omega
          rw [List.getElem?_append_left (by rw [Mt.cs_length]; exact hj2)]
          have e : off + j - (off + l.length) = j - l.length := by omega
          rw [Mt.cs_get _ _ hj2, List.getElem_append_right (by omega)]
          simp only [e]
    · -- no room: a new block
      have hgrow : ∀ (base : Option Addr) (cap : Nat) (olds : List Value), (Builtin.firstCells i0.size l.length (.slice base l.length cap)).run Tryd.prog w.drew = .ok olds.toArray w.drew → olds = Mt.cs l → cap < l.length + s.size →
          ∃ v' w' g', (∀ ty, (Builtin.append_ #[54, 9] ty #[.slice base l.length cap, .string s]).run Tryd.prog w = .ok v' w') ∧ IsByt w' g' v' (l ++ s.data.toList) ∧ (g' = g ∨ g' = w.heap.size) ∧ OnlyS [g] w w' := by
        intro base cap olds hold holds hcap
        have hcc := grownCap_ge w (l.length + s.size) cap 5
        refine ⟨_, _, w.heap.size, fun ty => run_append_grow_src w 54 9 ty 5 i0 (.int .u8 0) Tryd.underlying54 hi hz0 base l.length cap olds hold _ s.size _ (src w) hcap (by omega) (growslice_fits hcap (by rw [hz2]; omega)), ?_, .inr rfl, (OnlyS.refl _ _).drew.alloc _⟩
        subst holds
        refine .inr ⟨0, _, _, by rw [List.length_append, hsl], heap_alloc_new _ _, by rw [List.length_append, hsl]; exact hcc, ?_, ?_⟩
        · rw [Array.size_append, size_zeroCells, List.size_toArray, List.length_append, Mt.cs_length, Mt.cs_length, hsl]; simp [Value.cells]; omega
        · intro j hj
          rw [Nat.zero_add, Array.getElem?_append_left (by simp [Mt.cs_length]; rw [List.length_append] at hj; omega)]
          rw [← Mt.cs_append, List.getElem?_toArray]
          exact Mt.cs_get _ _ hj
      rcases h with ⟨rfl, rfl⟩ | ⟨off, cap, cur, rfl, h2, h3, h4, h5⟩
      · exact hgrow none 0 [] (run_firstCells_none w.drew i0.size 0 0 0) rfl (by simp; omega)
      · refine hgrow _ cap (Mt.cs l) (run_firstCells_some w.drew i0.size l.length ⟨g, off, none⟩ l.length cap (Mt.cs l) (by rw [Mt.cs_length, hz1, Nat.mul_one]) ?_) rfl ?_
        · intro j u hu
          obtain ⟨hj, rfl⟩ := Mt.cs_getD l j u hu
          rw [add_off]
          have := h5 j hj
          rw [World.cell?_drew]
          rw [cell_of_row w g _ cur 5 (0, 0) h2, this]
          simp [List.getD, List.getElem?_eq_getElem hj]
        · exact Nat.lt_of_not_le fun hle => hroom ⟨off, cap, cur, rfl, h2, hle, h4, h5⟩
theorem wpList_append_run {P : Program} {ops : Array Oper} {rest : List Oper} {o : Oper} {a : Act} {w : World} {Q : Exit → Act → World → Prop} (hgd : o.guard = none) (d s : Operand) (t t' : TypeId)
    (ho : o.op = .call { callee := .builtin .append, args := #[d, s], argTypes := #[t, t'] }) (v u : Value) (hd : a.eval d = v) (hs : a.eval s = u) {v' : Value} {w' : World}
    (hr : ∀ ty, (Builtin.append_ #[t, t'] ty #[v, u]).run P w = .ok v' w') (h : wpList P ops Q rest (a.put o.dst v') w') : wpList P ops Q (o :: rest) a w :=
  wpList_plain hgd fun _ hK => by
    unfold Oper.wp execOp
    simp only [ho, resolve, invoke, builtin, Sem.run_bind, Sem.run_pure, Result.andThen_ok, List.map_toArray, List.map_cons, List.map_nil, hd, hs, hr]
    exact hK _ _ h
theorem byt_text {w : World} {g off n cap : Nat} {l : List UInt8} {cur : Array Value} (hg : w.heap[g]? = some (.cells cur 5 (0, 0))) (hc : ∀ j (hj : j < l.length), cur[off + j]? = some (.int .u8 (l[j].toNat : Int))) (hn : n ≤ l.length) :
    (convert 54 9 (.slice (some ⟨g, off, none⟩) n cap)).run Tryd.prog w = .ok (.string (Mt.str (l.take n))) w := by
  have h := run_convert_bytes_arg (P := Tryd.prog) w 54 5 Tryd.underlying54 Tryd.underlying5 g off n cap ((l.take n).map fun c => (c.toNat : Int)) (by simp; omega) (fun i hi => by
    rw [cell_of_row w g _ cur 5 (0, 0) hg, hc i (by omega)]
    simp [List.getD, List.getElem?_map, List.getElem?_take, hi, List.getElem?_eq_getElem (show i < l.length by omega)]) 9 Tryd.underlying9
  rw [Mt.str_nums] at h
  exact h
end Go.Proofs.YtnlbhmjgeedgpaaDoor
