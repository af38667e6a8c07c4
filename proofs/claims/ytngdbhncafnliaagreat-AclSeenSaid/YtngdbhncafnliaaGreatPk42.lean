/-
  Some texts of one proof, one behind the other.
-/
import Derived.Maps.RangeWalk
import Derived.Maps.Views
import Derived.Sort.KeysCollected
import Derived.Test.YtngdbhncafnliaaGreatPk22
import Derived.Test.YtngdbhncafnliaaGreatPk40
set_option linter.unusedVariables false
set_option linter.unusedSimpArgs false

/-
  What classes want, as a map of the call's own.
-/
namespace Go.Proofs.YtngdbhncafnliaaGreat
open Go.RowKit

namespace Mt
/-- What is wanted of a name, where so many must be there and so many may. -/
def val (M Y : List (List UInt8)) (f : List UInt8) : Int := if f ∈ M then 2 else if f ∈ Y then 1 else 0
theorem val_range (M Y : List (List UInt8)) (f : List UInt8) : val M Y f = 0 ∨ val M Y f = 1 ∨ val M Y f = 2 := by
  unfold val; split
  · exact .inr (.inr rfl)
  · split
    · exact .inr (.inl rfl)
    · exact .inl rfl
theorem val_must (M Y : List (List UInt8)) (f g : List UInt8) : val (M ++ [f]) Y g = if g = f then max (val M Y f) 2 else val M Y g := by
  unfold val
  by_cases h : g = f
  · subst h; rw [if_pos (by simp), if_pos rfl]; split <;> (try split) <;> rfl
  · rw [if_neg h]; simp only [List.mem_append, List.mem_singleton, h, or_false]
theorem val_may (M Y : List (List UInt8)) (f g : List UInt8) : val M (Y ++ [f]) g = if g = f then max (val M Y f) 1 else val M Y g := by
  unfold val
  by_cases h : g = f
  · subst h; rw [if_pos rfl]
    by_cases hm : g ∈ M
    · rw [if_pos hm, if_pos hm]; rfl
    · simp only [hm, if_false, List.mem_append, List.mem_singleton, or_true, if_true]; split <;> rfl
  · rw [if_neg h]; simp only [List.mem_append, List.mem_singleton, h, or_false]
theorem length_le_of_sub : ∀ (ss T : List (List UInt8)), ss.Nodup → (∀ x ∈ ss, x ∈ T) → ss.length ≤ T.length
  | [], T, _, _ => Nat.zero_le _
  | x :: r, T, hn, hs => by
    have hx := hs x (by simp)
    have hn' := List.nodup_cons.1 hn
    have := length_le_of_sub r (T.erase x) hn'.2 (fun y hy => (List.mem_erase_of_ne (fun e => hn'.1 (by rw [← e]; exact hy))).2 (hs y (by simp [hy])))
    rw [List.length_erase_of_mem hx] at this
    have := List.length_pos_of_mem hx
    rw [List.length_cons]; omega
def dd : List (List UInt8) → List (List UInt8)
  | [] => []
  | x :: r => if x ∈ dd r then dd r else x :: dd r
theorem mem_dd : ∀ (l : List (List UInt8)) (x : List UInt8), x ∈ dd l ↔ x ∈ l
  | [], x => Iff.rfl
  | y :: r, x => by
    unfold dd
    split
    · rename_i h
      rw [mem_dd r x, List.mem_cons]
      constructor
      · exact .inr
      · rintro (rfl | h2)
        · exact (mem_dd r x).1 h
        · exact h2
    · rw [List.mem_cons, mem_dd r x, List.mem_cons]
theorem nodup_dd : ∀ l : List (List UInt8), (dd l).Nodup
  | [] => List.nodup_nil
  | y :: r => by
    unfold dd
    split
    · exact nodup_dd r
    · rename_i h
      exact List.nodup_cons.2 ⟨h, nodup_dd r⟩
/-- Those of which just that is wanted, rising. -/
def those (M Y : List (List UInt8)) (k : Int) : List (List UInt8) := ((dd (M ++ Y)).filter fun f => decide (val M Y f = k)).mergeSort leB
end Mt
theorem keyLawS : Maps.Keyed Tryz.prog 9 := Maps.string_keyed Tryz.underlying9
noncomputable abbrev intE : Value → Option (DataW Unit × List MemPlace) := plainElem Tryz.prog 3
/-- A map that reads so. -/
def Wm (D : DataW Unit) (M Y : List (List UInt8)) : Prop := ∀ f : List UInt8, Maps.has D (.string f) = decide (Mt.val M Y f ≠ 0) ∧ (Mt.val M Y f ≠ 0 → ∀ z, D.atKey (.string f) z = .lit (.int .i64 (Mt.val M Y f)))
theorem Wm.at {D : DataW Unit} {M Y : List (List UInt8)} (h : Wm D M Y) (f : List UInt8) : D.atKey (.string f) (.lit (.int .i64 0)) = .lit (.int .i64 (Mt.val M Y f)) := by
  by_cases hv : Mt.val M Y f = 0
  · rw [Maps.atKey_of_not_has (by rw [(h f).1, decide_eq_false (fun e => e hv)]), hv]
  · exact (h f).2 hv _
theorem Wm.none : Wm (.map []) [] [] := fun f => ⟨rfl, fun h => absurd rfl h⟩
theorem Wm.put {D : DataW Unit} {M Y M' Y' : List (List UInt8)} (h : Wm D M Y) (hm : Maps.IsMap D) (f : List UInt8) (k : Int) (hk : k ≠ 0) (hv : ∀ g, Mt.val M' Y' g = if g = f then k else Mt.val M Y g) : Wm (D.put (.string f) (.lit (.int .i64 k))) M' Y' := by
  intro g
  rw [hv g]
  by_cases e : g = f
  · subst e
    rw [if_pos rfl]
    exact ⟨by rw [Maps.has_put_same hm (show WideAt.IsKeyLit (.string g) from trivial), decide_eq_true hk], fun _ z => Maps.atKey_put_same hm (show WideAt.IsKeyLit (.string g) from trivial) _ z⟩
  · rw [if_neg e]
    have hne : (Lit.string g) ≠ .string f := fun h => e (by cases h; rfl)
    exact ⟨by rw [Maps.has_put_other hne]; exact (h g).1, fun hz z => by rw [Maps.atKey_put_other hne]; exact (h g).2 hz z⟩
theorem Wm.size {w : World} {b n : Nat} {D : DataW Unit} {M Y T : List (List UInt8)} (hown : w.ownsMap Tryz.prog 9 intE b n D) (h : Wm D M Y) (hT : ∀ f, Mt.val M Y f ≠ 0 → f ∈ T) : Maps.size D ≤ T.length := by
  obtain ⟨es, hD, hpw, _⟩ := hown.entries keyLawS
  obtain ⟨es', hD', hko⟩ := hown.keysOf
  obtain rfl : es = es' := by rw [hD] at hD'; simpa using hD'
  subst hD
  have hstr : ∀ p ∈ es, ∃ x, p.1 = .string x := fun p hp => by
    obtain ⟨v, hv⟩ := hko p hp
    obtain ⟨x, _, hx, _⟩ := Maps.keyOf_str Tryz.underlying9 hv
    exact ⟨x, hx⟩
  rw [Maps.size_eq]
  have hnd : (es.map fun p => strOf p.1).Nodup := by
    refine List.pairwise_map.2 (hpw.imp_of_mem fun {p q} hp' hq' hne e => hne ?_)
    obtain ⟨a, ha⟩ := hstr p hp'
    obtain ⟨c, hc⟩ := hstr q hq'
    rw [ha, hc] at e ⊢
    exact congrArg _ e
  have := Mt.length_le_of_sub _ T hnd (fun x hx => by
    obtain ⟨p, hp, rfl⟩ := List.mem_map.1 hx
    obtain ⟨a, ha⟩ := hstr p hp
    refine hT _ ?_
    have h1 : Maps.has (.map es) (.string a) = true := by
      rw [Maps.has_eq, List.any_eq_true]
      exact ⟨p, hp, by rw [ha]; simp [Lit.sameKey]⟩
    rw [(h a).1] at h1
    rw [ha]
    exact of_decide_eq_true h1)
  rw [List.length_map] at this
  exact this
theorem ownsMap_exact13 {w : World} {b n : Nat} {D : DataW Unit} (h : w.ownsMap Tryz.prog 9 intE b n D) : w.ownsMap Tryz.prog 9 intE b (Maps.size D) D := by
  obtain ⟨es, clock, h1, h2, h3, h4⟩ := h
  refine ⟨es, clock, h1, h2, ?_, h4⟩
  subst h4
  rw [Maps.size_eq]
  first
    | (rw [length_sorted]; simp)
    | simp
theorem ownsMap_keep13 {w u : World} {b n : Nat} {D : DataW Unit} (h : w.ownsMap Tryz.prog 9 intE b n D) (hb : u.heap[b]? = w.heap[b]?) : u.ownsMap Tryz.prog 9 intE b n D := by
  obtain ⟨es, clock, h1, h2⟩ := h
  exact ⟨es, clock, hb.trans h1, h2⟩
theorem ownsMap_lt13 {w : World} {b n : Nat} {D : DataW Unit} (h : w.ownsMap Tryz.prog 9 intE b n D) : b < w.heap.size := by
  obtain ⟨es, clock, h1, _⟩ := h
  exact lt_of_block h1
theorem zeroInt13 (w : World) : (zeroValue 3).run Tryz.prog w = .ok (.int .i64 0) w := by kernel_rfl
end Go.Proofs.YtngdbhncafnliaaGreat

/-
  What a class wants is put to what is wanted.
-/
namespace Go.Proofs.YtngdbhncafnliaaGreat
open Go.RowKit

namespace Mt
def addM (k : Int) (M l : List (List UInt8)) : List (List UInt8) := if k = 2 then M ++ l.map foldL else M
def addY (k : Int) (Y l : List (List UInt8)) : List (List UInt8) := if k = 2 then Y else Y ++ l.map foldL
theorem add_step (k : Int) (hk : k = 1 ∨ k = 2) (M Y l : List (List UInt8)) (x g : List UInt8) : val (addM k M (l ++ [x])) (addY k Y (l ++ [x])) g = if g = foldL x then max (val (addM k M l) (addY k Y l) (foldL x)) k else val (addM k M l) (addY k Y l) g := by
  rcases hk with rfl | rfl
  · unfold addM addY
    simp only [show ¬ (1 : Int) = 2 by decide, if_false]
    rw [List.map_append, ← List.append_assoc]
    exact val_may M (Y ++ l.map foldL) (foldL x) g
  · unfold addM addY
    rw [if_pos rfl, if_pos rfl, if_pos rfl, if_pos rfl, List.map_append, ← List.append_assoc]
    exact val_must (M ++ l.map foldL) Y (foldL x) g
theorem addM_nil (k : Int) (M : List (List UInt8)) : addM k M [] = M := by unfold addM; split <;> simp
theorem addY_nil (k : Int) (Y : List (List UInt8)) : addY k Y [] = Y := by unfold addY; split <;> simp
end Mt
theorem onlyOf {S : List Nat} {a b c : World} (h : OnlyS S a b) (h2 : Below b.heap.size b c) : OnlyS S a c := h.trans ⟨h2.os, h2.tape, h2.output, h2.size, fun k hk _ => h2.block k hk⟩
end Go.Proofs.YtngdbhncafnliaaGreat

/-
  The names of which just that is wanted, rising.
-/
namespace Go.Proofs.YtngdbhncafnliaaGreat
open Go.RowKit Go.Shelf Go.Sort

theorem ranges_keep13 {w u : World} {b r n : Nat} {D : DataW Unit} {left : Lit → Bool} {cnt : Nat} (h : w.ranges Tryz.prog 9 intE b r n D left cnt) (h1 : u.heap[b]? = w.heap[b]?) (h2 : u.heap[r]? = w.heap[r]?) : u.ranges Tryz.prog 9 intE b r n D left cnt := by
  obtain ⟨es, clock, since, seen, c0, hb, F, hs, hD, hr, rest⟩ := h
  exact ⟨es, clock, since, seen, c0, h1.trans hb, F, hs, hD, h2.trans hr, rest⟩
/-- The names met so far. -/
def Coll (M Y : List (List UInt8)) (k : Int) (left : Lit → Bool) (ss : List (List UInt8)) : Prop := ss.Nodup ∧ ∀ x, x ∈ ss ↔ (Mt.val M Y x = k ∧ left (.string x) = false)
section
variable {M Y : List (List UInt8)} {k : Int} {left : Lit → Bool} {ss : List (List UInt8)}
theorem Coll.start {D : DataW Unit} (hW : Wm D M Y) (hk : k ≠ 0) : Coll M Y k (Maps.has D) [] := ⟨List.nodup_nil, fun x => by
  constructor
  · intro h; cases h
  · rintro ⟨h1, h2⟩
    rw [(hW x).1, decide_eq_false_iff_not] at h2
    exact absurd (by rw [h1]; exact hk) h2⟩
theorem Coll.take (h : Coll M Y k left ss) {x : List UInt8} (hlk : left (.string x) = true) (hv : Mt.val M Y x = k) : Coll M Y k (fun z => left z && !z.sameKey (.string x)) (ss ++ [x]) := by
  have hnew : x ∉ ss := fun hx => by have := ((h.2 x).1 hx).2; rw [hlk] at this; cases this
  refine ⟨List.nodup_append.2 ⟨h.1, by simp, fun a ha b hb => by simp at hb; subst hb; exact fun e => hnew (e ▸ ha)⟩, fun y => ?_⟩
  by_cases hy : y = x
  · subst hy; simp [hv, Lit.sameKey]
  · simp [h.2 y, hy, Lit.sameKey]
theorem Coll.skip (h : Coll M Y k left ss) {x : List UInt8} (hv : Mt.val M Y x ≠ k) : Coll M Y k (fun z => left z && !z.sameKey (.string x)) ss := by
  refine ⟨h.1, fun y => ?_⟩
  by_cases hy : y = x
  · subst hy; simp [h.2 y, hv]
  · simp [h.2 y, hy, Lit.sameKey]
theorem Coll.perm (h : Coll M Y k left ss) (hk : k ≠ 0) (hl : ∀ kl, left kl = false) : ss.Perm ((Mt.dd (M ++ Y)).filter fun f => decide (Mt.val M Y f = k)) := by
  refine (List.perm_ext_iff_of_nodup h.1 (List.Pairwise.filter _ (Mt.nodup_dd (M ++ Y)))).2 fun x => ?_
  rw [h.2 x, hl, List.mem_filter, Mt.mem_dd, decide_eq_true_eq]
  constructor
  · rintro ⟨h1, _⟩
    refine ⟨?_, h1⟩
    unfold Mt.val at h1
    rw [List.mem_append]
    by_cases hm : x ∈ M
    · exact .inl hm
    · rw [if_neg hm] at h1
      by_cases hy : x ∈ Y
      · exact .inr hy
      · rw [if_neg hy] at h1; exact absurd h1.symm hk
  · rintro ⟨_, h1⟩; exact ⟨h1, rfl⟩
theorem Coll.sort (h : Coll M Y k left ss) (hk : k ≠ 0) (hl : ∀ kl, left kl = false) : ss.mergeSort Mt.leB = Mt.those M Y k := mergeSort_of_perm (h.perm hk hl)
end
theorem below_grow (w : World) (os : Array Obj) : Below w.heap.size w (grow w os) := by
  refine ⟨rfl, rfl, rfl, by simp [grow], fun k hk => ?_⟩
  show (w.heap ++ os)[k]? = _
  rw [Array.getElem?_append_left hk]
theorem sort13_any {base : Nat} {w : World} {v : Value} {ls : List (List UInt8)} (h : IsOwn 9 1 base w v ls.length (nms ls)) (hbase : base ≤ w.heap.size) (hn : ls.length < 4611686018427387904) :
    Calls Tryz.prog 61 #[v] w fun e w' => e = .returned (.tuple #[]) ∧ IsNms w' v (ls.mergeSort Mt.leB) ∧ Below base w w' := by
  have hlm : (ls.mergeSort Mt.leB).length = ls.length := List.length_mergeSort _
  obtain ⟨g, hg, hl, h⟩ := h
  rcases h with ⟨h0, rfl⟩ | ⟨off, cap, cur, rfl, h2, h3, h4, h5⟩
  · have : ls = [] := List.eq_nil_of_length_eq_zero h0
    subst this
    refine (AnyM.slices_Sort_string_none Tryz.sortA none 0 w).mono fun e w' ⟨he, hw⟩ => ⟨he, ?_, hw ▸ Below.refl _ _⟩
    exact ⟨none, 0, by simp, by simp, Lib.hid fun j hj => absurd hj (by simp)⟩
  · have hlt := lt_of_block h2
    have hH : Holds encStr w g off ls.toArray := by
      intro j hj
      have hj2 : j < ls.length := by simpa using hj
      refine ⟨?_, by simp [World.frozen?, h2]⟩
      rw [cell_of_row w g _ cur 9 (0, 0) h2, h5 j (by simpa [nms] using hj2)]
      simp [nms, getElem!_pos, hj2]; rfl
    refine (AnyM.slices_Sort_string Tryz.sortA g off cap ls w hH hlt hn).mono fun e w' ⟨he, n, os, hw⟩ => ⟨he, ?_, ?_⟩
    · have hsz : (putRow encStr (Sort.ahead w n) g off (ls.mergeSort fun x y => decide (x ≤ y)).toArray).heap.size = w.heap.size := by simp [putRow, mapBlock, Sort.ahead]
      refine ⟨_, cap, by rw [hlm], by rw [hlm]; exact h3, Lib.hid fun j hj => ⟨g, off, rfl, by rw [hw]; simp [grow]; omega, ?_⟩⟩
      have hb := below_grow (putRow encStr (Sort.ahead w n) g off (ls.mergeSort fun x y => decide (x ≤ y)).toArray) os
      rw [hw, hb.cell (p := ⟨g, off + j, none⟩) (by rw [hsz]; exact hlt)]
      have hHa : Holds encStr (Sort.ahead w n) g off ls.toArray := hH
      have := cell?_putRow encStr (Sort.ahead w n) g off ls.toArray (ls.mergeSort fun x y => decide (x ≤ y)).toArray hHa (by simp) j (by simpa using hj)
      rw [this]
      have e : (ls.mergeSort fun x y => decide (x ≤ y)) = ls.mergeSort Mt.leB := rfl
      rw [e, getElem!_pos _ _ (by simpa using hj)]
      simp; rfl
    · rw [hw]
      have hb1 : Below base w (putRow encStr (Sort.ahead w n) g off (ls.mergeSort fun x y => decide (x ≤ y)).toArray) := by
        refine ⟨rfl, rfl, rfl, by simp [putRow, mapBlock, Sort.ahead], fun k hk => ?_⟩
        simp only [putRow, mapBlock, Sort.ahead, Array.getElem?_modify]
        rw [if_neg (by omega)]
      exact hb1.trans ((below_grow _ os).mono (by simp [putRow, mapBlock, Sort.ahead]; omega))
end Go.Proofs.YtngdbhncafnliaaGreat

/-
  What must be there of classes, and what only may.
-/
namespace Go.Proofs.YtngdbhncafnliaaGreat
open Go.RowKit

namespace Mt
def mustI (s : Sc) (l : List Nat) : List (List UInt8) := l.flatMap fun (i : Nat) => (clI s (i : Int)).must.map foldL
def mayI (s : Sc) (l : List Nat) : List (List UInt8) := l.flatMap fun (i : Nat) => (clI s (i : Int)).may.map foldL
def idxs (s : Sc) (cs : List (List UInt8)) : List Nat := cs.flatMap (chain s)
def wantsS (s : Sc) (cs : List (List UInt8)) : List (List UInt8) × List (List UInt8) := (those (mustI s (idxs s cs)) (mayI s (idxs s cs)) 2, those (mustI s (idxs s cs)) (mayI s (idxs s cs)) 1)
theorem mustI_app (s : Sc) (a b : List Nat) : mustI s (a ++ b) = mustI s a ++ mustI s b := by simp [mustI]
theorem mayI_app (s : Sc) (a b : List Nat) : mayI s (a ++ b) = mayI s a ++ mayI s b := by simp [mayI]
theorem idxs_app (s : Sc) (a b : List (List UInt8)) : idxs s (a ++ b) = idxs s a ++ idxs s b := by simp [idxs]
end Mt
theorem own_only {E : TypeId} {sz base b n : Nat} {w u : World} {v : Value} {xs : List Value} (h : IsOwn E sz base w v n xs) (ho : OnlyS [b] w u) (hb : b < base) : IsOwn E sz base u v n xs := by
  obtain ⟨g, hg, hl, h⟩ := h
  refine ⟨g, hg, hl, ?_⟩
  rcases h with h | ⟨off, cap, cur, h1, h2, h3⟩
  · exact .inl h
  · exact .inr ⟨off, cap, cur, h1, (ho.block g (lt_of_block h2) (by simp; omega)).trans h2, h3⟩
/-- What a class lists. -/
theorem lists_at {tv cv : Value} {s : Mt.Sc} {w : World} (h : IsSc w tv cv s) {a : Option Addr} {n cap : Nat} (hv : cv = .slice a n cap) (j : Nat) (hj : j < s.classes.length) :
    ∃ b off m y, a = some ⟨b, off, none⟩ ∧ Hid (∀ u, Below w.heap.size w u → (u.cell? ⟨b, off + j * 5 + 3, none⟩ = some m ∧ u.cell? ⟨b, off + j * 5 + 4, none⟩ = some y) ∧ IsNms u m (Mt.clI s (j : Int)).must ∧ IsNms u y (Mt.clI s (j : Int)).may) := by
  obtain ⟨a', cap', hv', hcap, hcell⟩ := h.classes
  obtain ⟨b', off', m, y, e0, hbl, h0, h1, h2, h3, h4, h5, h6⟩ := hcell.out j hj
  rw [hv'] at hv
  cases hv
  rw [Mt.clI_get hj]
  exact ⟨b', off', m, y, e0, Lib.hid fun u hu => ⟨⟨(hu.cell (p := ⟨b', _, none⟩) hbl).trans h3, (hu.cell (p := ⟨b', _, none⟩) hbl).trans h4⟩, h5.below hu, h6.below hu⟩⟩
def StW (T : List (List UInt8)) (b : Nat) (u : World) (M Y : List (List UInt8)) : Prop := ∃ n' D', u.ownsMap Tryz.prog 9 intE b n' D' ∧ Wm D' M Y ∧ ∀ f, Mt.val M Y f ≠ 0 → f ∈ T
theorem StW.keep {T : List (List UInt8)} {b : Nat} {w u : World} {M Y : List (List UInt8)} (h : StW T b w M Y) (hb : Below w.heap.size w u) : StW T b u M Y := by
  obtain ⟨n, D, h1, h2⟩ := h
  exact ⟨n, D, ownsMap_keep13 h1 (hb.block b (ownsMap_lt13 h1)), h2⟩
end Go.Proofs.YtngdbhncafnliaaGreat

/-
  The schema of the chapter, as it is laid.
-/
namespace Go.Proofs.YtngdbhncafnliaaGreat
open Go.RowKit

namespace Mt
def coreT : List Ty := [⟨[111, 98, 106, 101, 99, 116, 67, 108, 97, 115, 115], 3, false, false⟩, ⟨[99, 110], 1, false, false⟩, ⟨[115, 110], 1, false, false⟩, ⟨[111, 117], 1, false, false⟩, ⟨[111], 1, false, false⟩, ⟨[100, 99], 3, false, false⟩, ⟨[117, 105, 100], 3, false, false⟩, ⟨[109, 97, 105, 108], 3, false, false⟩, ⟨[100, 101, 115, 99, 114, 105, 112, 116, 105, 111, 110], 1, false, false⟩, ⟨[109, 101, 109, 98, 101, 114], 6, false, false⟩, ⟨[117, 115, 101, 114, 80, 97, 115, 115, 119, 111, 114, 100], 7, false, false⟩, ⟨[101, 109, 112, 108, 111, 121, 101, 101, 78, 117, 109, 98, 101, 114], 4, true, false⟩, ⟨[97, 99, 116, 105, 118, 101], 5, true, false⟩, ⟨[99, 114, 101, 97, 116, 101, 100, 65, 116], 4, true, true⟩, ⟨[99, 104, 97, 110, 103, 101, 100, 65, 116], 4, true, true⟩, ⟨[112, 119, 100, 70, 97, 105, 108, 117, 114, 101], 3, false, true⟩, ⟨[112, 119, 100, 76, 111, 99, 107, 101, 100], 4, true, true⟩, ⟨[112, 119, 100, 67, 104, 97, 110, 103, 101, 100], 4, true, true⟩]
def coreC : List Cl := [⟨[116, 111, 112], [], 0, [[111, 98, 106, 101, 99, 116, 67, 108, 97, 115, 115]], [[99, 114, 101, 97, 116, 101, 100, 65, 116], [99, 104, 97, 110, 103, 101, 100, 65, 116], [112, 119, 100, 70, 97, 105, 108, 117, 114, 101], [112, 119, 100, 76, 111, 99, 107, 101, 100], [112, 119, 100, 67, 104, 97, 110, 103, 101, 100]]⟩, ⟨[100, 111, 109, 97, 105, 110], [116, 111, 112], 1, [[100, 99]], [[100, 101, 115, 99, 114, 105, 112, 116, 105, 111, 110]]⟩, ⟨[111, 114, 103, 97, 110, 105, 122, 97, 116, 105, 111, 110], [116, 111, 112], 1, [[111]], [[100, 101, 115, 99, 114, 105, 112, 116, 105, 111, 110]]⟩, ⟨[111, 114, 103, 97, 110, 105, 122, 97, 116, 105, 111, 110, 97, 108, 85, 110, 105, 116], [116, 111, 112], 1, [[111, 117]], [[100, 101, 115, 99, 114, 105, 112, 116, 105, 111, 110]]⟩, ⟨[112, 101, 114, 115, 111, 110], [116, 111, 112], 1, [[99, 110], [115, 110]], [[100, 101, 115, 99, 114, 105, 112, 116, 105, 111, 110], [117, 115, 101, 114, 80, 97, 115, 115, 119, 111, 114, 100]]⟩, ⟨[105, 110, 101, 116, 80, 101, 114, 115, 111, 110], [112, 101, 114, 115, 111, 110], 1, [], [[117, 105, 100], [109, 97, 105, 108], [101, 109, 112, 108, 111, 121, 101, 101, 78, 117, 109, 98, 101, 114], [97, 99, 116, 105, 118, 101]]⟩, ⟨[103, 114, 111, 117, 112], [116, 111, 112], 1, [[99, 110], [109, 101, 109, 98, 101, 114]], [[100, 101, 115, 99, 114, 105, 112, 116, 105, 111, 110]]⟩, ⟨[115, 101, 99, 117, 114, 101, 100], [116, 111, 112], 2, [[117, 115, 101, 114, 80, 97, 115, 115, 119, 111, 114, 100]], []⟩, ⟨[108, 97, 98, 101, 108, 108, 101, 100], [116, 111, 112], 2, [], [[117, 105, 100], [109, 97, 105, 108]]⟩]
def core : Sc := ⟨coreT, coreC⟩
end Mt
/-- The cells of types. -/
def tyCells (l : List Mt.Ty) : List Value := l.flatMap fun t => [.string (Mt.str t.name), .int .i64 t.syn, .bool t.single, .bool t.oper]
theorem tyCells_get : ∀ (r : List Mt.Ty) (j : Nat) (hj : j < r.length), (tyCells r)[j * 4]? = some (.string (Mt.str r[j].name)) ∧ (tyCells r)[j * 4 + 1]? = some (.int .i64 r[j].syn) ∧ (tyCells r)[j * 4 + 2]? = some (.bool r[j].single) ∧ (tyCells r)[j * 4 + 3]? = some (.bool r[j].oper)
  | [], j, hj => by simp at hj
  | a :: r, 0, _ => ⟨rfl, rfl, rfl, rfl⟩
  | a :: r, j + 1, hj => by
    have h := tyCells_get r j (by simpa using hj)
    have e : tyCells (a :: r) = .string (Mt.str a.name) :: .int .i64 a.syn :: .bool a.single :: .bool a.oper :: tyCells r := rfl
    rw [e, show (j + 1) * 4 = j * 4 + 4 by omega]
    exact h
theorem tys_of_row {u : World} {g : Nat} {l : List Mt.Ty} {cs : Array Value} (h : u.heap[g]? = some (.cells cs 71)) (hc : cs = (tyCells l).toArray) : IsTys u (.slice (some ⟨g, 0, none⟩) l.length l.length) l := by
  refine ⟨_, _, rfl, Nat.le_refl _, Lib.hid fun j hj => ⟨g, 0, rfl, lt_of_block h, ?_⟩⟩
  obtain ⟨h0, h1, h2, h3⟩ := tyCells_get l j hj
  subst hc
  simp only [Nat.zero_add]
  exact ⟨by rw [cell_of_row _ _ _ _ _ _ h, List.getElem?_toArray]; exact h0, by rw [cell_of_row _ _ _ _ _ _ h, List.getElem?_toArray]; exact h1, by rw [cell_of_row _ _ _ _ _ _ h, List.getElem?_toArray]; exact h2, by rw [cell_of_row _ _ _ _ _ _ h, List.getElem?_toArray]; exact h3⟩
theorem nms_of_row {u : World} {g : Nat} {l : List (List UInt8)} {cs : Array Value} (h : u.heap[g]? = some (.cells cs 9)) (hc : cs = (nms l).toArray) : IsNms u (.slice (some ⟨g, 0, none⟩) l.length l.length) l := by
  refine ⟨_, _, rfl, Nat.le_refl _, Lib.hid fun j hj => ⟨g, 0, rfl, lt_of_block h, ?_⟩⟩
  subst hc
  rw [cell_of_row _ _ _ _ _ _ h, List.getElem?_toArray]
  simp [nms, hj]
theorem nms_none (u : World) : IsNms u (.slice none 0 0) [] := ⟨none, 0, rfl, Nat.le_refl _, Lib.hid fun j hj => absurd hj (by simp)⟩
/-- The cells of classes, with the slices of what they list. -/
def clCells (l : List (Mt.Cl × Value × Value)) : List Value := l.flatMap fun t => [.string (Mt.str t.1.name), .string (Mt.str t.1.sup), .int .i64 t.1.kind, t.2.1, t.2.2]
theorem clCells_get : ∀ (r : List (Mt.Cl × Value × Value)) (j : Nat) (hj : j < r.length), (clCells r)[j * 5]? = some (.string (Mt.str r[j].1.name)) ∧ (clCells r)[j * 5 + 1]? = some (.string (Mt.str r[j].1.sup)) ∧ (clCells r)[j * 5 + 2]? = some (.int .i64 r[j].1.kind) ∧ (clCells r)[j * 5 + 3]? = some r[j].2.1 ∧ (clCells r)[j * 5 + 4]? = some r[j].2.2
  | [], j, hj => by simp at hj
  | a :: r, 0, _ => ⟨rfl, rfl, rfl, rfl, rfl⟩
  | a :: r, j + 1, hj => by
    have h := clCells_get r j (by simpa using hj)
    have e : clCells (a :: r) = .string (Mt.str a.1.name) :: .string (Mt.str a.1.sup) :: .int .i64 a.1.kind :: a.2.1 :: a.2.2 :: clCells r := rfl
    rw [e, show (j + 1) * 5 = j * 5 + 5 by omega]
    exact h
theorem cls_of_row {u : World} {g : Nat} {l : List (Mt.Cl × Value × Value)} {cs : Array Value} (h : u.heap[g]? = some (.cells cs 73)) (hc : cs = (clCells l).toArray) (hl : ∀ p ∈ l, IsNms u p.2.1 p.1.must ∧ IsNms u p.2.2 p.1.may) : IsCls u (.slice (some ⟨g, 0, none⟩) l.length l.length) (l.map (·.1)) := by
  refine ⟨_, _, by rw [List.length_map], by rw [List.length_map]; exact Nat.le_refl _, Lib.hid fun j hj => ?_⟩
  rw [List.length_map] at hj
  obtain ⟨h0, h1, h2, h3, h4⟩ := clCells_get l j hj
  obtain ⟨h5, h6⟩ := hl _ (List.getElem_mem hj)
  subst hc
  simp only [Nat.zero_add, List.getElem_map]
  exact ⟨g, 0, l[j].2.1, l[j].2.2, rfl, lt_of_block h, by rw [Nat.zero_add, cell_of_row _ _ _ _ _ _ h, List.getElem?_toArray]; exact h0, by rw [Nat.zero_add, cell_of_row _ _ _ _ _ _ h, List.getElem?_toArray]; exact h1, by rw [Nat.zero_add, cell_of_row _ _ _ _ _ _ h, List.getElem?_toArray]; exact h2, by rw [Nat.zero_add, cell_of_row _ _ _ _ _ _ h, List.getElem?_toArray]; exact h3, by rw [Nat.zero_add, cell_of_row _ _ _ _ _ _ h, List.getElem?_toArray]; exact h4, h5, h6⟩
/-- What lies behind a place is as it was. -/
def Above (w w' u : World) : Prop := w'.heap.size ≤ u.heap.size ∧ ∀ k, w.heap.size ≤ k → k < w'.heap.size → u.heap[k]? = w'.heap[k]?
theorem Above.refl (w w' : World) : Above w w' w' := ⟨Nat.le_refl _, fun _ _ _ => rfl⟩
end Go.Proofs.YtngdbhncafnliaaGreat

/-
  The classes of the chapter, as they are laid.
-/
namespace Go.Proofs.YtngdbhncafnliaaGreat
open Go.RowKit

end Go.Proofs.YtngdbhncafnliaaGreat

/-
  The schema of the chapter; the chapter's examples.
-/
namespace Go.Proofs.YtngdbhncafnliaaGreat
open Go.RowKit

theorem core_is {u : World} {tv cv : Value} (h1 : IsTys u tv Mt.coreT) (h2 : IsCls u cv Mt.coreC) : IsSc u tv cv Mt.core :=
  ⟨h1, h2, by decide, by decide, by decide, by decide⟩
namespace Mt
def nTop : List UInt8 := [116, 111, 112]
def nPERSON : List UInt8 := [80, 69, 82, 83, 79, 78]
def nInet : List UInt8 := [105, 110, 101, 116, 80, 101, 114, 115, 111, 110]
def nPerson : List UInt8 := [112, 101, 114, 115, 111, 110]
def nGroup : List UInt8 := [103, 114, 111, 117, 112]
def coreTn : List (List UInt8) := core.types.map fun t => foldL t.name
theorem core_kind1 : kindS core [nTop, nPERSON, nInet] = (nInet, true) := by decide +kernel
theorem core_kind2 : (kindS core [nPerson, nGroup]).2 = false := by decide +kernel
theorem core_chk : chk core = 0 := by decide +kernel
theorem core_must : (mustI core (idxs core [nGroup])) = [[99, 110], [109, 101, 109, 98, 101, 114], [111, 98, 106, 101, 99, 116, 99, 108, 97, 115, 115]] := by decide +kernel
theorem core_may : (mayI core (idxs core [nGroup])) = [[100, 101, 115, 99, 114, 105, 112, 116, 105, 111, 110], [99, 114, 101, 97, 116, 101, 100, 97, 116], [99, 104, 97, 110, 103, 101, 100, 97, 116], [112, 119, 100, 102, 97, 105, 108, 117, 114, 101], [112, 119, 100, 108, 111, 99, 107, 101, 100], [112, 119, 100, 99, 104, 97, 110, 103, 101, 100]] := by decide +kernel
theorem core_wants : (wantsS core [nGroup]).1 = [[99, 110], [109, 101, 109, 98, 101, 114], [111, 98, 106, 101, 99, 116, 99, 108, 97, 115, 115]] ∧ (wantsS core [nGroup]).2.length = 6 := by
  have h1 : (wantsS core [nGroup]).1 = those (mustI core (idxs core [nGroup])) (mayI core (idxs core [nGroup])) 2 := rfl
  have h2 : (wantsS core [nGroup]).2 = those (mustI core (idxs core [nGroup])) (mayI core (idxs core [nGroup])) 1 := rfl
  rw [h1, h2, core_must, core_may]
  refine ⟨?_, ?_⟩
  · have e : ∀ M Y : List (List UInt8), ∀ l, (dd (M ++ Y)).filter (fun f => decide (val M Y f = 2)) = l → l.Pairwise (fun a b => leB a b = true) → those M Y 2 = l := fun M Y l h hp => by
      unfold those; rw [h]; exact List.mergeSort_of_pairwise hp
    exact e _ _ _ (by decide +kernel) (by decide +kernel)
  · unfold those
    rw [List.length_mergeSort]
    decide +kernel
theorem core_in : ∀ c ∈ core.classes, ∀ x, x ∈ c.must ∨ x ∈ c.may → foldL x ∈ coreTn := by
  have h : (core.classes.all fun c => (c.must ++ c.may).all fun x => decide (foldL x ∈ coreTn)) = true := by decide +kernel
  intro c hc x hx
  have h2 := List.all_eq_true.1 (List.all_eq_true.1 h c hc) x (by rw [List.mem_append]; exact hx)
  exact of_decide_eq_true h2
end Mt
end Go.Proofs.YtngdbhncafnliaaGreat
