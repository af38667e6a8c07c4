/-
  A book of places in memory: a block of two cells, a map, a row for each connection.
-/
import Derived.Test.YtmdhioifdnaajaaPgMath
import Derived.Test.YtmdhioifdnaajaaPgRow
import Derived.Test.YtmdhioifdnaajaaPut
import Derived.Maps.OwnSet
import Derived.Maps.RangeWalk
set_option linter.unusedVariables false
set_option linter.unusedSimpArgs false
namespace Go.Proofs.Ytmdhioifdnaajaa
open Go.RowKit Go.Maps

/-- Nothing has turned but blocks of these; new ones may have come. -/
structure OnlyP (S : Nat → Prop) (w w' : World) : Prop where
  os : w'.os = w.os
  tape : w'.tape = w.tape
  output : w'.output = w.output
  size : w.heap.size ≤ w'.heap.size
  block : ∀ k, k < w.heap.size → ¬ S k → w'.heap[k]? = w.heap[k]?
theorem OnlyP.refl (S : Nat → Prop) (w : World) : OnlyP S w w := ⟨rfl, rfl, rfl, Nat.le_refl _, fun _ _ _ => rfl⟩
theorem OnlyP.trans {S T : Nat → Prop} {a b c : World} (h1 : OnlyP S a b) (h2 : OnlyP T b c) (hT : ∀ k, T k → S k ∨ a.heap.size ≤ k) : OnlyP S a c :=
  ⟨h2.os.trans h1.os, h2.tape.trans h1.tape, h2.output.trans h1.output, Nat.le_trans h1.size h2.size, fun k hk hS => (h2.block k (Nat.lt_of_lt_of_le hk h1.size) (fun ht => by rcases hT k ht with h | h; exact hS h; omega)).trans (h1.block k hk hS)⟩
theorem OnlyS.toP {l : List Nat} {S : Nat → Prop} {a b : World} (h : OnlyS l a b) (hl : ∀ k ∈ l, S k ∨ a.heap.size ≤ k) : OnlyP S a b :=
  ⟨h.os, h.tape, h.output, h.size, fun k hk hS => h.block k hk (fun hm => by rcases hl k hm with h | h; exact hS h; omega)⟩
theorem belowToP {S : Nat → Prop} {a b : World} (h : Below a.heap.size a b) : OnlyP S a b := ⟨h.os, h.tape, h.output, h.size, fun k hk _ => h.block k hk⟩
theorem OnlyP.toBelow {S : Nat → Prop} {D : Nat} {a b : World} (h : OnlyP S a b) (hS : ∀ k, S k → D ≤ k) (hs : D ≤ a.heap.size) : Below D a b :=
  ⟨h.os, h.tape, h.output, h.size, fun k hk => h.block k (by omega) (fun hm => by have := hS k hm; omega)⟩

/-! ### places -/
def plC (p : Mt.Pl) : List Value := [.int .u64 (p.num : Int), .string p.key, .int .i64 p.ver, .int .i64 p.at']
def plsC (l : List Mt.Pl) : List Value := l.flatMap plC
theorem plsC_len : ∀ l : List Mt.Pl, (plsC l).length = l.length * 4
  | [] => rfl
  | p :: r => by
    show (plC p ++ plsC r).length = _
    rw [List.length_append, plsC_len r]; simp [plC]; omega
theorem plsC_cons (p : Mt.Pl) (r : List Mt.Pl) : plsC (p :: r) = plC p ++ plsC r := rfl
theorem plsC_append (a b : List Mt.Pl) : plsC (a ++ b) = plsC a ++ plsC b := by simp [plsC]
theorem plsC_one (l : List Mt.Pl) : ∀ u ∈ plsC l, u.oneCell' = true := by
  intro u hu
  obtain ⟨p, _, hp⟩ := List.mem_flatMap.1 hu
  unfold plC at hp
  simp at hp
  rcases hp with rfl | rfl | rfl | rfl <;> rfl
theorem plsC_take : ∀ (l : List Mt.Pl) (k : Nat), (plsC l).take (k * 4) = plsC (l.take k)
  | [], k => by simp [plsC]
  | p :: r, 0 => by simp [plsC]
  | p :: r, k + 1 => by
    rw [plsC_cons, List.take_succ_cons, plsC_cons, ← plsC_take r k, show (k + 1) * 4 = (plC p).length + k * 4 by simp [plC]; omega, List.take_length_add_append]
theorem plsC_drop : ∀ (l : List Mt.Pl) (k : Nat), (plsC l).drop (k * 4) = plsC (l.drop k)
  | [], k => by simp [plsC]
  | p :: r, 0 => by simp [plsC]
  | p :: r, k + 1 => by
    rw [plsC_cons, List.drop_succ_cons, ← plsC_drop r k, show (k + 1) * 4 = (plC p).length + k * 4 by simp [plC]; omega, List.drop_length_add_append]
theorem plsC_get : ∀ (l : List Mt.Pl) (j : Nat) (hj : j < l.length), (plsC l)[j * 4]? = some (.int .u64 (l[j].num : Int)) ∧ (plsC l)[j * 4 + 1]? = some (.string l[j].key) ∧ (plsC l)[j * 4 + 2]? = some (.int .i64 l[j].ver) ∧ (plsC l)[j * 4 + 3]? = some (.int .i64 l[j].at')
  | [], j, hj => absurd hj (by simp)
  | p :: r, 0, _ => ⟨rfl, rfl, rfl, rfl⟩
  | p :: r, j + 1, hj => by
    have h := plsC_get r j (by simpa using hj)
    have hl : (plC p).length = 4 := rfl
    have e : ∀ d, (plsC (p :: r))[(j + 1) * 4 + d]? = (plsC r)[j * 4 + d]? := fun d => by
      rw [plsC_cons, List.getElem?_append_right (by rw [hl]; omega), hl, show (j + 1) * 4 + d - 4 = j * 4 + d by omega]
    have e0 := e 0
    rw [Nat.add_zero, Nat.add_zero] at e0
    rw [e0, e 1, e 2, e 3]
    exact h

/-! ### a map of rows -/
/-- How a row reads, as an element of a map: as itself. -/
def RB : Value → Option (DataW Value × List MemPlace)
  | .slice a n c => some (.held (.slice a n c), [])
  | _ => none
theorem RB_inv {v : Value} {z : DataW Value × List MemPlace} (h : RB v = some z) : ∃ a n c, v = .slice a n c ∧ z = (.held (.slice a n c), []) := by
  cases v <;> simp [RB] at h
  exact ⟨_, _, _, rfl, h.symm⟩
theorem keyLawB : Keyed Try.prog 3 := int_keyed Try.underlying3
theorem Try.zeroPlaces (w : World) : (zeroValue 44).run Try.prog w = .ok (.slice none 0 0) w := by kernel_rfl
theorem Try.infoPlace : (Try.prog.info? 49).map (fun i => (i.zero, i.size, i.bytes)) = some (some (.agg #[.int .u64 0, .string .empty, .int .i64 0, .int .i64 0]), 4, 40) := by kernel_rfl
theorem ownsMapB_block {w u : World} {b n : Nat} {D : DataW Value} (h : w.ownsMap Try.prog 3 RB b n D) (hb : u.heap[b]? = w.heap[b]?) : u.ownsMap Try.prog 3 RB b n D := by
  obtain ⟨es, clock, h1, h2⟩ := h
  exact ⟨es, clock, hb.trans h1, h2⟩
theorem ownsMapB_ne {w : World} {b n g : Nat} {D : DataW Value} {cs : Array Value} {t : TypeId} {fr : Nat × Nat} (h : w.ownsMap Try.prog 3 RB b n D) (hg : w.heap[g]? = some (.cells cs t fr)) : b ≠ g := by
  obtain ⟨es, clock, h1, _⟩ := h
  intro e
  subst e
  rw [h1] at hg
  cases hg
/-- The map has the rows of these places, each in a block of its own. -/
structure RowsB (w : World) (D : DataW Value) (g : Int → Nat) (L : Mt.Bk) : Prop where
  has : ∀ c, Maps.has D (.int .i64 c) = true ↔ Mt.rowB c L ≠ []
  row : ∀ c, ∃ v, D.atKey (.int .i64 c) (.held (.slice none 0 0)) = .held v ∧ IsRw 49 4 w (g c) v (Mt.rowB c L).length (plsC (Mt.rowB c L))
  apart : ∀ c c', Mt.rowB c L ≠ [] → Mt.rowB c' L ≠ [] → g c = g c' → c = c'
/-- A row that is there has a block. -/
theorem IsRw.hasBlock {E : TypeId} {s : Nat} {w : World} {g : Nat} {v : Value} {n : Nat} {xs : List Value} (h : IsRw E s w g v n xs) (hn : 0 < n) : ∃ off cap cur, v = .slice (some ⟨g, off, none⟩) n cap ∧ w.heap[g]? = some (.cells cur E (0, 0)) := by
  rcases h.2 with ⟨h0, _⟩ | ⟨off, cap, cur, h1, h2, _⟩
  · omega
  · exact ⟨off, cap, cur, h1, h2⟩
/-- A book: of these blocks; so many stores there were at most. -/
structure IsBook (w : World) (B : Nat) (S : Nat → Prop) (N last : Nat) (L : Mt.Bk) : Prop where
  ok : Mt.BkOk last L
  le : last ≤ N
  ex : ∃ bm D g, w.heap[B]? = some (.cells #[.int .u64 (last : Int), .map (some bm)] 43) ∧ w.ownsMap Try.prog 3 RB bm N D ∧ RowsB w D g L ∧ S B ∧ S bm ∧ ∀ c, Mt.rowB c L ≠ [] → S (g c)
  lt : ∀ k, S k → k < w.heap.size
theorem RowsB.blocks {w u : World} {D : DataW Value} {g : Int → Nat} {L : Mt.Bk} (h : RowsB w D g L) (hb : ∀ c, Mt.rowB c L ≠ [] → u.heap[g c]? = w.heap[g c]?) : RowsB u D g L := by
  refine ⟨h.has, fun c => ?_, h.apart⟩
  obtain ⟨v, h1, h2⟩ := h.row c
  refine ⟨v, h1, ?_⟩
  by_cases hc : Mt.rowB c L = []
  · have hf : Maps.has D (.int .i64 c) = false := by
      cases h9 : Maps.has D (.int .i64 c) with
      | false => rfl
      | true => exact absurd hc ((h.has c).1 h9)
    rw [Maps.atKey_of_not_has hf] at h1
    injection h1 with h1
    subst h1
    rw [hc]
    exact IsRw.nil _ _ _ _
  · exact h2.kept (hb c hc)
theorem IsBook.other {w u : World} {B : Nat} {S : Nat → Prop} {N last : Nat} {L : Mt.Bk} (h : IsBook w B S N last L) (hb : ∀ k, S k → u.heap[k]? = w.heap[k]?) (hs : w.heap.size ≤ u.heap.size) : IsBook u B S N last L := by
  obtain ⟨bm, D, g, h1, h2, h3, h4, h5, h6⟩ := h.ex
  exact ⟨h.ok, h.le, ⟨bm, D, g, (hb B h4).trans h1, ownsMapB_block h2 (hb bm h5), h3.blocks (fun c hc => hb _ (h6 c hc)), h4, h5, h6⟩, fun k hk => Nat.lt_of_lt_of_le (h.lt k hk) hs⟩
theorem IsBook.below {w u : World} {B : Nat} {S : Nat → Prop} {N last : Nat} {L : Mt.Bk} (h : IsBook w B S N last L) (hb : Below w.heap.size w u) : IsBook u B S N last L :=
  h.other (fun k hk => hb.block k (h.lt k hk)) hb.size
/-- The row of a connection: none, or in its block. -/
theorem RowsB.nil {w : World} {D : DataW Value} {g : Int → Nat} {L : Mt.Bk} (h : RowsB w D g L) {c : Int} (hc : Mt.rowB c L = []) : Maps.has D (.int .i64 c) = false ∧ D.atKey (.int .i64 c) (.held (.slice none 0 0)) = .held (.slice none 0 0) := by
  have hf : Maps.has D (.int .i64 c) = false := by
    cases h9 : Maps.has D (.int .i64 c) with
    | false => rfl
    | true => exact absurd hc ((h.has c).1 h9)
  exact ⟨hf, Maps.atKey_of_not_has hf _⟩
theorem litNe {c c' : Int} (h : c' ≠ c) : (Lit.int .i64 c') ≠ .int .i64 c := fun e => h (by cases e; rfl)
theorem keyLitB (i : Int) : WideAt.IsKeyLit (.int .i64 i) := trivial
/-- One row is another one. -/
theorem RowsB.put {w u : World} {D : DataW Value} {g : Int → Nat} {L M : Mt.Bk} (h : RowsB w D g L) (hD : Maps.IsMap D) (c : Int) (g' : Nat) (v : Value) (hne : Mt.rowB c M ≠ []) (hoth : ∀ c', c' ≠ c → Mt.rowB c' M = Mt.rowB c' L)
    (hrow : IsRw 49 4 u g' v (Mt.rowB c M).length (plsC (Mt.rowB c M))) (hb : ∀ c', c' ≠ c → Mt.rowB c' L ≠ [] → u.heap[g c']? = w.heap[g c']?) (hg : ∀ c', c' ≠ c → Mt.rowB c' L ≠ [] → g' ≠ g c') :
    RowsB u (D.put (.int .i64 c) (.held v)) (fun x => if x = c then g' else g x) M := by
  refine ⟨fun x => ?_, fun x => ?_, fun x y hx hy e => ?_⟩
  · by_cases hx : x = c
    · subst hx
      rw [Maps.has_put_same hD (keyLitB x)]
      exact ⟨fun _ => hne, fun _ => rfl⟩
    · rw [Maps.has_put_other (litNe hx), hoth x hx]; exact h.has x
  · by_cases hx : x = c
    · subst hx
      exact ⟨v, Maps.atKey_put_same hD (keyLitB x) _ _, by rw [if_pos rfl]; exact hrow⟩
    · have hw : RowsB w D g L := h
      obtain ⟨v2, h1, h2⟩ := h.row x
      refine ⟨v2, by rw [Maps.atKey_put_other (litNe hx)]; exact h1, ?_⟩
      rw [if_neg hx, hoth x hx]
      by_cases hr : Mt.rowB x L = []
      · have := (h.nil hr).2
        rw [h1] at this
        injection this with this
        subst this
        rw [hr]; exact IsRw.nil _ _ _ _
      · exact h2.kept (hb x hx hr)
  · by_cases hxc : x = c
    · subst hxc
      by_cases hyc : y = x
      · exact hyc.symm
      · rw [if_pos rfl, if_neg hyc] at e
        rw [hoth y hyc] at hy
        exact absurd e (hg y hyc hy)
    · by_cases hyc : y = c
      · subst hyc
        rw [if_pos rfl, if_neg hxc] at e
        rw [hoth x hxc] at hx
        exact absurd e.symm (hg x hxc hx)
      · rw [if_neg hxc, if_neg hyc] at e
        rw [hoth x hxc] at hx
        rw [hoth y hyc] at hy
        exact h.apart x y hx hy e
/-- One row is gone. -/
theorem RowsB.del {w u : World} {D : DataW Value} {g : Int → Nat} {L M : Mt.Bk} (h : RowsB w D g L) (c : Int) (hne : Mt.rowB c M = []) (hoth : ∀ c', c' ≠ c → Mt.rowB c' M = Mt.rowB c' L)
    (hb : ∀ c', c' ≠ c → Mt.rowB c' L ≠ [] → u.heap[g c']? = w.heap[g c']?) : RowsB u (D.del (.int .i64 c)) g M := by
  refine ⟨fun x => ?_, fun x => ?_, fun x y hx hy e => ?_⟩
  · by_cases hx : x = c
    · subst hx
      rw [Maps.has_del_same]
      exact ⟨(fun h => nomatch h), (fun h => absurd hne h)⟩
    · rw [Maps.has_del_other (litNe hx), hoth x hx]; exact h.has x
  · by_cases hx : x = c
    · subst hx
      exact ⟨_, Maps.atKey_del_same _, by rw [hne]; exact IsRw.nil _ _ _ _⟩
    · obtain ⟨v2, h1, h2⟩ := h.row x
      refine ⟨v2, by rw [Maps.atKey_del_other (litNe hx)]; exact h1, ?_⟩
      rw [hoth x hx]
      by_cases hr : Mt.rowB x L = []
      · have := (h.nil hr).2
        rw [h1] at this
        injection this with this
        subst this
        rw [hr]; exact IsRw.nil _ _ _ _
      · exact h2.kept (hb x hx hr)
  · by_cases hxc : x = c
    · subst hxc; exact absurd hne hx
    · by_cases hyc : y = c
      · subst hyc; exact absurd hne hy
      · rw [hoth x hxc] at hx
        rw [hoth y hyc] at hy
        exact h.apart x y hx hy e
end Go.Proofs.Ytmdhioifdnaajaa
