/-
  The document's book: its places in one row.
-/
import Derived.Test.YtmdhioifdnaajaaPgL
import Derived.Test.YtmdhioifdnaajaaGp
set_option linter.unusedVariables false
set_option linter.unusedSimpArgs false
namespace Go.Proofs.Ytmdhioifdnaajaa
open Go.RowKit Go.Shelf

def rplC (q : Int × Mt.Pl) : List Value := [.int .i64 (q.2.num : Int), .int .i64 q.1, .string q.2.key, .int .i64 q.2.ver, .int .i64 q.2.at']
def rplsC (l : Mt.Bk) : List Value := l.flatMap rplC
theorem rplsC_len : ∀ l : Mt.Bk, (rplsC l).length = l.length * 5
  | [] => rfl
  | p :: r => by
    show (rplC p ++ rplsC r).length = _
    rw [List.length_append, rplsC_len r]; simp [rplC]; omega
theorem rplsC_cons (p : Int × Mt.Pl) (r : Mt.Bk) : rplsC (p :: r) = rplC p ++ rplsC r := rfl
theorem rplsC_append (a b : Mt.Bk) : rplsC (a ++ b) = rplsC a ++ rplsC b := by simp [rplsC]
theorem rplsC_one (l : Mt.Bk) : ∀ u ∈ rplsC l, u.oneCell' = true := by
  intro u hu
  obtain ⟨p, _, hp⟩ := List.mem_flatMap.1 hu
  unfold rplC at hp
  simp only [List.mem_cons, List.not_mem_nil, or_false] at hp
  rcases hp with rfl | rfl | rfl | rfl | rfl <;> rfl
theorem rplsC_get : ∀ (l : Mt.Bk) (j : Nat) (hj : j < l.length), (rplsC l)[j * 5]? = some (.int .i64 (l[j].2.num : Int)) ∧ (rplsC l)[j * 5 + 1]? = some (.int .i64 l[j].1) ∧ (rplsC l)[j * 5 + 2]? = some (.string l[j].2.key) ∧ (rplsC l)[j * 5 + 3]? = some (.int .i64 l[j].2.ver) ∧ (rplsC l)[j * 5 + 4]? = some (.int .i64 l[j].2.at')
  | [], j, hj => by simp at hj
  | p :: r, 0, _ => ⟨rfl, rfl, rfl, rfl, rfl⟩
  | p :: r, j + 1, hj => by
    have h := rplsC_get r j (by simpa using hj)
    have hl : (rplC p).length = 5 := rfl
    have hs : ∀ m, (rplsC (p :: r))[(j + 1) * 5 + m]? = (rplsC r)[j * 5 + m]? := fun m => by
      rw [rplsC_cons, List.getElem?_append_right (by rw [hl]; omega), hl]
      congr 1; omega
    have h0 := hs 0
    simp only [Nat.add_zero] at h0
    rw [h0, hs 1, hs 2, hs 3, hs 4]
    exact h
theorem Try.infoRPlace : (Try.prog.info? 55).map (fun i => (i.zero, i.size, i.bytes)) = some (some (.agg #[.int .i64 0, .int .i64 0, .string .empty, .int .i64 0, .int .i64 0]), 5, 48) := by kernel_rfl
theorem Try.underlyingT_RPlacesX : Try.prog.underlying 27 = some (.slice 55) := by kernel_rfl
/-- One place more. -/
theorem rpl_push {base : Nat} {w wx : World} {v : Value} {L : Mt.Bk} (h : IsOwn 55 5 base w v L.length (rplsC L)) (hb : Below w.heap.size w wx) (hbase : base ≤ w.heap.size) (q : Int × Mt.Pl) (hn : L.length ≤ 200000) :
    ∃ a' c' w', (∀ ty, (Builtin.append_ #[27, 27] ty #[v, .slice (some ⟨wx.heap.size, 0, none⟩) 1 1]).run Try.prog (wx.alloc (.cells #[.int .i64 (q.2.num : Int), .int .i64 q.1, .string q.2.key, .int .i64 q.2.ver, .int .i64 q.2.at'] 55)) = .ok (.slice a' (L.length + 1) c') w') ∧ IsOwn 55 5 base w' (.slice a' (L ++ [q]).length c') (L ++ [q]).length (rplsC (L ++ [q])) ∧ Below base wx w' := by
  obtain ⟨i0, hi, hz0, hz1, hz2⟩ := info_parts Try.infoRPlace
  obtain ⟨a', c', w', h1, h2, h3⟩ := own_push (T := 27) (tx := 27) Try.underlyingT_RPlacesX Try.underlyingT_RPlacesX hi hz0 hz1 hz2 rfl (h.below hb) (Nat.le_trans hbase hb.size) (rplsC_one _) #[.int .i64 (q.2.num : Int), .int .i64 q.1, .string q.2.key, .int .i64 q.2.ver, .int .i64 q.2.at'] rfl (by simp [Value.oneCell']) (by omega) (by omega)
  exact ⟨a', c', w', h1, by rw [List.length_append, List.length_singleton, rplsC_append]; exact h2, h3⟩
/-- The document's book, in the blocks S. -/
structure IsRB (w : World) (R : Nat) (S : Nat → Prop) (last : Nat) (L : Mt.Bk) : Prop where
  ex : ∃ a cp g, w.heap[R]? = some (.cells #[.int .i64 (last : Int), .slice a L.length cp] 29 (0, 0)) ∧ IsRw 55 5 w g (.slice a L.length cp) L.length (rplsC L) ∧ S R ∧ S g
  lt : ∀ k, S k → k < w.heap.size
theorem IsRB.other {w u : World} {R : Nat} {S T : Nat → Prop} {last : Nat} {L : Mt.Bk} (h : IsRB w R S last L) (ho : OnlyP T w u) (hd : ∀ k, S k → ¬ T k) : IsRB u R S last L := by
  obtain ⟨a, cp, g, h1, h2, h3, h4⟩ := h.ex
  exact ⟨⟨a, cp, g, (ho.block R (h.lt R h3) (hd R h3)).trans h1, h2.kept (ho.block g (h.lt g h4) (hd g h4)), h3, h4⟩, fun k hk => Nat.lt_of_lt_of_le (h.lt k hk) ho.size⟩
theorem IsRw.notBox {E T : TypeId} {s : Nat} {w : World} {g R : Nat} {v : Value} {n : Nat} {xs : List Value} {cur : Array Value} (h : IsRw E s w g v n xs) (hR : w.heap[R]? = some (.cells cur T (0, 0))) (hT : T ≠ E) : g ≠ R ∨ (n = 0 ∧ v = .slice none 0 0) := by
  rcases h.2 with h | ⟨off, cap, c2, h1, h2, h3⟩
  · exact .inr h
  · left
    rintro rfl
    rw [hR] at h2
    injection h2 with h2
    injection h2 with _ h2
    exact hT h2
theorem rb_ne : (29 : TypeId) ≠ 55 := by decide
/-- A new row laid into the book. -/
theorem IsRB.store {w u : World} {R : Nat} {S : Nat → Prop} {last last2 : Nat} {L L2 : Mt.Bk} (h : IsRB w R S last L) (ho : OnlyP S w u) {x : Value} (hbox : u.heap[R]? = some (.cells #[.int .i64 (last2 : Int), x] 29 (0, 0))) {a2 : Option Addr} {c2 : Nat} (hown : IsOwn 55 5 w.heap.size u (.slice a2 L2.length c2) L2.length (rplsC L2)) :
    ∃ S', IsRB (u.setCell ⟨R, 1, none⟩ (.slice a2 L2.length c2)) R S' last2 L2 ∧ OnlyP S w (u.setCell ⟨R, 1, none⟩ (.slice a2 L2.length c2)) ∧ ∀ k, S' k → S k ∨ w.heap.size ≤ k := by
  obtain ⟨_, _, _, _, _, h3, _⟩ := h.ex
  have hRl := h.lt R h3
  obtain ⟨g0, hg0, hr0⟩ := hown
  have hset := heap_setCell_same u R 1 _ _ (.slice a2 L2.length c2) hbox
  have hsz : (u.setCell ⟨R, 1, none⟩ (.slice a2 L2.length c2)).heap.size = u.heap.size := by simp
  have hoth : ∀ k, k ≠ R → (u.setCell ⟨R, 1, none⟩ (.slice a2 L2.length c2)).heap[k]? = u.heap[k]? := fun k hk => heap_setCell_other _ _ _ _ hk
  have hop : OnlyP S w (u.setCell ⟨R, 1, none⟩ (.slice a2 L2.length c2)) := ⟨((OnlyS.refl [R] u).setCell (g := R) (i := 1) (by simp) (.slice a2 L2.length c2)).os.trans ho.os, ((OnlyS.refl [R] u).setCell (g := R) (i := 1) (by simp) (.slice a2 L2.length c2)).tape.trans ho.tape, ((OnlyS.refl [R] u).setCell (g := R) (i := 1) (by simp) (.slice a2 L2.length c2)).output.trans ho.output, by rw [hsz]; exact ho.size, fun k hk hS => (hoth k (fun e => hS (by rw [e]; exact h3))).trans (ho.block k hk hS)⟩
  rcases hr0.norm R with hl | hr
  · refine ⟨fun k => S k ∨ k = g0, ⟨⟨a2, c2, g0, hset, hr0.kept (hoth g0 (by omega)), .inl h3, .inr rfl⟩, fun k hk => ?_⟩, hop, fun k hk => ?_⟩
    · rw [hsz]
      rcases hk with hk | rfl
      · exact Nat.lt_of_lt_of_le (h.lt k hk) ho.size
      · exact hl
    · rcases hk with hk | rfl
      · exact .inl hk
      · exact .inr hg0
  · refine ⟨S, ⟨⟨a2, c2, R, hset, ?_, h3, h3⟩, fun k hk => by rw [hsz]; exact Nat.lt_of_lt_of_le (h.lt k hk) ho.size⟩, hop, fun k hk => .inl hk⟩
    rcases hr.notBox hbox rb_ne with e | ⟨e1, e2⟩
    · exact absurd rfl e
    · rw [e2]
      obtain ⟨hl, -⟩ := hr
      exact ⟨hl, .inl ⟨e1, rfl⟩⟩
theorem Mt.filter_stepB {l : Mt.Bk} {j : Nat} (q : Int × Mt.Pl → Bool) (h : j < l.length) : (l.take (j + 1)).filter q = if q l[j] = true then (l.take j).filter q ++ [l[j]] else (l.take j).filter q := by
  rw [List.take_succ_eq_append_getElem h, List.filter_append]
  by_cases e : q l[j] = true
  · rw [if_pos e, List.filter_cons_of_pos e]; rfl
  · rw [if_neg e, List.filter_cons_of_neg e]; simp
theorem cell_sameH {u w : World} {g o : Nat} (h : u.heap[g]? = w.heap[g]?) : u.cell? ⟨g, o, none⟩ = w.cell? ⟨g, o, none⟩ := by unfold World.cell?; simp only [h]
/-- What a place of the row is in memory. -/
theorem IsRw.rplace {w : World} {g : Nat} {a : Option Addr} {cp : Nat} {L : Mt.Bk} (h : IsRw 55 5 w g (.slice a L.length cp) L.length (rplsC L)) {k : Nat} (hk : k < L.length) : ∃ off, a = some ⟨g, off, none⟩ ∧ ∀ u : World, u.heap[g]? = w.heap[g]? → u.cell? ⟨g, off + k * 5, none⟩ = some (.int .i64 (L[k].2.num : Int)) ∧ u.cell? ⟨g, off + k * 5 + 1, none⟩ = some (.int .i64 L[k].1) ∧ u.cell? ⟨g, off + k * 5 + 2, none⟩ = some (.string L[k].2.key) ∧ u.cell? ⟨g, off + k * 5 + 3, none⟩ = some (.int .i64 L[k].2.ver) ∧ u.cell? ⟨g, off + k * 5 + 4, none⟩ = some (.int .i64 L[k].2.at') := by
  obtain ⟨off, cap, e, hc, hg, hx⟩ := h.cell (by omega)
  have e1 : a = some ⟨g, off, none⟩ := by injection e
  refine ⟨off, e1, fun u hu => ?_⟩
  have hl := rplsC_len L
  have hk5 : k * 5 + 5 ≤ L.length * 5 := by omega
  obtain ⟨p0, p1, p2, p3, p4⟩ := rplsC_get L k hk
  have hcell : ∀ j v, (rplsC L)[j]? = some v → u.cell? ⟨g, off + j, none⟩ = some v := fun j v hv => by
    obtain ⟨hj, he⟩ := List.getElem?_eq_some_iff.1 hv
    rw [← he, ← hx j hj]
    exact cell_sameH hu
  exact ⟨hcell _ _ p0, hcell _ _ p1, hcell _ _ p2, hcell _ _ p3, hcell _ _ p4⟩
end Go.Proofs.Ytmdhioifdnaajaa
