/-
  What classes want, as a map of the call's own.
-/
import Derived.Test.YthkhicpkkmhfbaaScK
import Derived.Test.YthkhicpkkmhfbaaSort13
import Derived.Maps.RangeWalk
import Derived.Maps.Views
import Derived.Sort.KeysCollected
namespace Go.Proofs.Ythkhicpkkmhfbaa
open Go.RowKit

namespace Mt
/-- What is wanted of a name, where so many must be there and so many may. -/
def val (M Y : List (List UInt8)) (f : List UInt8) : Int := if f ∈ M then 2 else if f ∈ Y then 1 else 0
theorem val_range (M Y : List (List UInt8)) (f : List UInt8) : val M Y f = 0 ∨ val M Y f = 1 ∨ val M Y f = 2 := by
  unfold val; split
  · exact .inr (.inr rfl)
  · split
    · exact .inr (.inl rfl)
    · exact .inl rfl
theorem val_must (M Y : List (List UInt8)) (f g : List UInt8) : val (M ++ [f]) Y g = if g = f then max (val M Y f) 2 else val M Y g := by
  unfold val
  by_cases h : g = f
  · subst h; rw [if_pos (by simp), if_pos rfl]; split <;> (try split) <;> rfl
  · rw [if_neg h]; simp only [List.mem_append, List.mem_singleton, h, or_false]
theorem val_may (M Y : List (List UInt8)) (f g : List UInt8) : val M (Y ++ [f]) g = if g = f then max (val M Y f) 1 else val M Y g := by
  unfold val
  by_cases h : g = f
  · subst h; rw [if_pos rfl]
    by_cases hm : g ∈ M
    · rw [if_pos hm, if_pos hm]; rfl
    · simp only [hm, if_false, List.mem_append, List.mem_singleton, or_true, if_true]; split <;> rfl
  · rw [if_neg h]; simp only [List.mem_append, List.mem_singleton, h, or_false]
theorem length_le_of_sub : ∀ (ss T : List (List UInt8)), ss.Nodup → (∀ x ∈ ss, x ∈ T) → ss.length ≤ T.length
  | [], T, _, _ => Nat.zero_le _
  | x :: r, T, hn, hs => by
    have hx := hs x (by simp)
    have hn' := List.nodup_cons.1 hn
    have := length_le_of_sub r (T.erase x) hn'.2 (fun y hy => (List.mem_erase_of_ne (fun e => hn'.1 (by rw [← e]; exact hy))).2 (hs y (by simp [hy])))
    rw [List.length_erase_of_mem hx] at this
    have := List.length_pos_of_mem hx
    rw [List.length_cons]; omega
def dd : List (List UInt8) → List (List UInt8)
  | [] => []
  | x :: r => if x ∈ dd r then dd r else x :: dd r
theorem mem_dd : ∀ (l : List (List UInt8)) (x : List UInt8), x ∈ dd l ↔ x ∈ l
  | [], x => Iff.rfl
  | y :: r, x => by
    unfold dd
    split
    · rename_i h
      rw [mem_dd r x, List.mem_cons]
      constructor
      · exact .inr
      · rintro (rfl | h2)
        · exact (mem_dd r x).1 h
        · exact h2
    · rw [List.mem_cons, mem_dd r x, List.mem_cons]
theorem nodup_dd : ∀ l : List (List UInt8), (dd l).Nodup
  | [] => List.nodup_nil
  | y :: r => by
    unfold dd
    split
    · exact nodup_dd r
    · rename_i h
      exact List.nodup_cons.2 ⟨h, nodup_dd r⟩
/-- Those of which just that is wanted, rising. -/
def those (M Y : List (List UInt8)) (k : Int) : List (List UInt8) := ((dd (M ++ Y)).filter fun f => decide (val M Y f = k)).mergeSort leB
end Mt
theorem keyLawS : Maps.Keyed Try.prog 9 := Maps.string_keyed Try.underlying9
noncomputable abbrev intE : Value → Option (DataW Unit × List MemPlace) := plainElem Try.prog 3
/-- A map that reads so. -/
def Wm (D : DataW Unit) (M Y : List (List UInt8)) : Prop := ∀ f : List UInt8, Maps.has D (.string f) = decide (Mt.val M Y f ≠ 0) ∧ (Mt.val M Y f ≠ 0 → ∀ z, D.atKey (.string f) z = .lit (.int .i64 (Mt.val M Y f)))
theorem Wm.at {D : DataW Unit} {M Y : List (List UInt8)} (h : Wm D M Y) (f : List UInt8) : D.atKey (.string f) (.lit (.int .i64 0)) = .lit (.int .i64 (Mt.val M Y f)) := by
  by_cases hv : Mt.val M Y f = 0
  · rw [Maps.atKey_of_not_has (by rw [(h f).1, decide_eq_false (fun e => e hv)]), hv]
  · exact (h f).2 hv _
theorem Wm.none : Wm (.map []) [] [] := fun f => ⟨rfl, fun h => absurd rfl h⟩
theorem Wm.put {D : DataW Unit} {M Y M' Y' : List (List UInt8)} (h : Wm D M Y) (hm : Maps.IsMap D) (f : List UInt8) (k : Int) (hk : k ≠ 0) (hv : ∀ g, Mt.val M' Y' g = if g = f then k else Mt.val M Y g) : Wm (D.put (.string f) (.lit (.int .i64 k))) M' Y' := by
  intro g
  rw [hv g]
  by_cases e : g = f
  · subst e
    rw [if_pos rfl]
    exact ⟨by rw [Maps.has_put_same hm (show WideAt.IsKeyLit (.string g) from trivial), decide_eq_true hk], fun _ z => Maps.atKey_put_same hm (show WideAt.IsKeyLit (.string g) from trivial) _ z⟩
  · rw [if_neg e]
    have hne : (Lit.string g) ≠ .string f := fun h => e (by cases h; rfl)
    exact ⟨by rw [Maps.has_put_other hne]; exact (h g).1, fun hz z => by rw [Maps.atKey_put_other hne]; exact (h g).2 hz z⟩
theorem Wm.size {w : World} {b n : Nat} {D : DataW Unit} {M Y T : List (List UInt8)} (hown : w.ownsMap Try.prog 9 intE b n D) (h : Wm D M Y) (hT : ∀ f, Mt.val M Y f ≠ 0 → f ∈ T) : Maps.size D ≤ T.length := by
  obtain ⟨es, hD, hpw, _⟩ := hown.entries keyLawS
  obtain ⟨es', hD', hko⟩ := hown.keysOf
  obtain rfl : es = es' := by rw [hD] at hD'; simpa using hD'
  subst hD
  have hstr : ∀ p ∈ es, ∃ x, p.1 = .string x := fun p hp => by
    obtain ⟨v, hv⟩ := hko p hp
    obtain ⟨x, _, hx, _⟩ := Maps.keyOf_str Try.underlying9 hv
    exact ⟨x, hx⟩
  rw [Maps.size_eq]
  have hnd : (es.map fun p => strOf p.1).Nodup := by
    refine List.pairwise_map.2 (hpw.imp_of_mem fun {p q} hp' hq' hne e => hne ?_)
    obtain ⟨a, ha⟩ := hstr p hp'
    obtain ⟨c, hc⟩ := hstr q hq'
    rw [ha, hc] at e ⊢
    exact congrArg _ e
  have := Mt.length_le_of_sub _ T hnd (fun x hx => by
    obtain ⟨p, hp, rfl⟩ := List.mem_map.1 hx
    obtain ⟨a, ha⟩ := hstr p hp
    refine hT _ ?_
    have h1 : Maps.has (.map es) (.string a) = true := by
      rw [Maps.has_eq, List.any_eq_true]
      exact ⟨p, hp, by rw [ha]; simp [Lit.sameKey]⟩
    rw [(h a).1] at h1
    rw [ha]
    exact of_decide_eq_true h1)
  rw [List.length_map] at this
  exact this
theorem ownsMap_exact13 {w : World} {b n : Nat} {D : DataW Unit} (h : w.ownsMap Try.prog 9 intE b n D) : w.ownsMap Try.prog 9 intE b (Maps.size D) D := by
  obtain ⟨es, clock, h1, h2, h3, h4⟩ := h
  refine ⟨es, clock, h1, h2, ?_, h4⟩
  subst h4
  rw [Maps.size_eq]
  first
    | (rw [length_sorted]; simp)
    | simp
theorem ownsMap_keep13 {w u : World} {b n : Nat} {D : DataW Unit} (h : w.ownsMap Try.prog 9 intE b n D) (hb : u.heap[b]? = w.heap[b]?) : u.ownsMap Try.prog 9 intE b n D := by
  obtain ⟨es, clock, h1, h2⟩ := h
  exact ⟨es, clock, hb.trans h1, h2⟩
theorem ownsMap_lt13 {w : World} {b n : Nat} {D : DataW Unit} (h : w.ownsMap Try.prog 9 intE b n D) : b < w.heap.size := by
  obtain ⟨es, clock, h1, _⟩ := h
  exact lt_of_block h1
theorem zeroInt13 (w : World) : (zeroValue 3).run Try.prog w = .ok (.int .i64 0) w := by kernel_rfl
end Go.Proofs.Ythkhicpkkmhfbaa
