/-
  The numbers of the sectors that wait, in order: slices.Sorted(maps.Keys(..)); the map cleared.
-/
import Derived.Test.YtmahkgkhnpffeaaDkB
import Derived.Test.YtmahkgkhnpffeaaShelf
namespace Go.Proofs.Ytmahkgkhnpffeaa
open Go.RowKit Go.Maps Go.Sort Go.Shelf
open Go.MapKept (run_setObj_map stamped_empty)
open Go.ChangeMaps (setBlock heap_setBlock_other heap_setBlock_same)

theorem sortsA (m : Nat) : AnyZI.SortsIn Try.prog Try.sortedA_ren Fence.wide m :=
  ⟨fun blk off cap ss W hH hblk hsz => callsIn_wide.2 (AnyM.slices_Sort_int Try.sortA blk off cap ss W hH hblk hsz),
   fun p cap W => callsIn_wide.2 (AnyM.slices_Sort_int_none Try.sortA p cap W)⟩

theorem keys_any (mb : Option Nat) (W : World) : Calls Try.prog 44 #[.map mb] W fun e w' => e = .returned (.func (.func 56) #[] #[.pointer (some ⟨W.heap.size, 0, none⟩)]) ∧ w' = W.alloc (.cells #[.map mb] 43) :=
  (callsIn_wide (n := 5)).1 (AnyZI.keys_in Try.keysA Fence.wide 5 trivial rfl mb W)

/-- A slice of these numbers, that the call made. -/
def IsInts (base : Nat) (w : World) (v : Value) (K : List Nat) : Prop := ∃ a cap, v = .slice a K.length cap ∧ (K.length = 0 ∨ ∃ g, a = some ⟨g, 0, none⟩ ∧ base ≤ g ∧ ∀ i, i < K.length → w.cell? ⟨g, i, none⟩ = some (.int .i64 ((K.getD i 0 : Nat) : Int)))
theorem IsInts.below {base : Nat} {w u : World} {v : Value} {K : List Nat} (h : IsInts base w v K) (hb : Below w.heap.size w u) : IsInts base u v K := by
  obtain ⟨a, cap, e, h⟩ := h
  refine ⟨a, cap, e, ?_⟩
  rcases h with h | ⟨g, rfl, hg, h⟩
  · exact .inl h
  · exact .inr ⟨g, rfl, hg, fun i hi => by rw [hb.cell (p := ⟨g, i, none⟩) (World.block_lt_of_cell? w _ (h i hi))]; exact h i hi⟩

theorem waits_perm {w : World} {bm n : Nat} {D : DataW Unit} {W : List (Option (List UInt8))} (hown : w.ownsMap Try.prog 3 secElem bm n D) (hW : Waits D W) : ((Mt.wkeys W).map Int.ofNat).Perm (intKeys D) := by
  obtain ⟨es, rfl, hpw, _⟩ := hown.entries keyLaw
  obtain ⟨es', hD', hko⟩ := hown.keysOf
  obtain rfl : es = es' := by simpa using hD'
  refine perm_intKeys hpw (fun p hp => ?_) ?_ (fun x => ?_)
  · obtain ⟨v, hv⟩ := hko p hp
    obtain ⟨x, _, hx, _⟩ := Maps.keyOf_i64 Try.underlying3 hv
    exact ⟨x, hx⟩
  · exact List.Pairwise.map _ (fun a b h e => h (Int.ofNat.inj e)) (Mt.wkeys_nodup W)
  · rw [hW.has x, List.mem_map]
    constructor
    · rintro ⟨i, hi, rfl⟩
      exact ⟨by simp, by simpa using Mt.mem_wkeys.1 hi⟩
    · rintro ⟨h0, h1⟩
      exact ⟨x.toNat, Mt.mem_wkeys.2 h1, by simp; omega⟩
theorem waits_size {w : World} {bm n : Nat} {D : DataW Unit} {W : List (Option (List UInt8))} (hown : w.ownsMap Try.prog 3 secElem bm n D) (hW : Waits D W) : Maps.size D = (Mt.wkeys W).length := by
  have h := (waits_perm hown hW).length_eq
  obtain ⟨es, rfl, _, _⟩ := hown.entries keyLaw
  simpa [Maps.size, intKeys] using h.symm
theorem sorted_keys (W : List (Option (List UInt8))) (ss : List Int) (h : ss.Perm ((Mt.wkeys W).map Int.ofNat)) : ss.mergeSort (fun x y => decide (x ≤ y)) = (Mt.wkeys W).map Int.ofNat := by
  have e := mergeSort_of_perm_i h
  unfold leI at e
  rw [e]
  refine List.mergeSort_of_pairwise ?_
  refine List.Pairwise.map _ (fun a b h => ?_) (Mt.wkeys_sorted W)
  simp; omega

set_option maxHeartbeats 1000000 in
theorem sorted_any {w : World} {bm n : Nat} {D : DataW Unit} {W : List (Option (List UInt8))} (hown : w.ownsMap Try.prog 3 secElem bm n D) (hW : Waits D W) (hl : W.length ≤ 8192) :
    Calls Try.prog 43 #[.func (.func 56) #[] #[.pointer (some ⟨w.heap.size, 0, none⟩)]] (w.alloc (.cells #[.map (some bm)] 43)) fun e w' => ∃ v, e = .returned v ∧ IsInts w.heap.size w' v (Mt.wkeys W) ∧ Below w.heap.size w w' := by
  have hsz : Maps.size D ≤ 8192 := by
    rw [waits_size hown hW]
    exact Nat.le_trans (Mt.wkeys_length W) hl
  have hbl := hown.lt
  have hseq : SeqGives Fence.wide 2 Try.prog 56 #[.pointer (some ⟨w.heap.size, 0, none⟩)] encZ (fun ss => ss.Perm (intKeys D)) (Maps.size D) (w.alloc (.cells #[.map (some bm)] 43)) :=
    AnyZI.keys_gives (ρ := Try.keysA_ren) { Try.keysA with } Fence.wide _ trivial rfl (by omega) w.heap.size bm n D _ (by simp) (by simp) (by
      obtain ⟨es, clock, hb, Ft, hs, hD⟩ := hown
      exact ⟨es, clock, (Below.heap_alloc _ _ bm hbl).trans hb, Ft, hs, hD⟩)
  have cS := AnyZI.sorted_in Try.sortedA Fence.wide 5 trivial trivial trivial trivial rfl (by omega) (sortsA _) (enters_of Try.func55 (by kernel_rfl) rfl) 56 #[.pointer (some ⟨w.heap.size, 0, none⟩)] trivial (enters_of Try.func56 (by kernel_rfl) rfl) _ _ (by unfold maxLen; omega) (by omega) _ hseq
  change CallsIn _ _ Try.prog 43 _ _ _ at cS
  refine ((callsIn_wide (n := 5)).1 cS).mono ?_
  rintro e w' ⟨v, ss, rfl, hS, hrow, hnil, hb⟩
  refine ⟨v, rfl, ?_, ((Below.refl _ w).alloc (Nat.le_refl _) _).trans (hb.mono (by simp))⟩
  have hp : ss.Perm ((Mt.wkeys W).map Int.ofNat) := hS.trans (waits_perm hown hW).symm
  have hlen : ss.length = (Mt.wkeys W).length := by rw [hp.length_eq, List.length_map]
  rw [sorted_keys W ss hp, hlen] at hrow
  generalize Mt.wkeys W = K at *
  rcases hrow.2 with ⟨rfl, h0⟩ | ⟨g, cap, cur, rfl, hg, hh⟩
  · exact ⟨none, 0, by rw [h0], .inl h0⟩
  · refine ⟨_, cap, rfl, ?_⟩
    rcases Nat.eq_zero_or_pos K.length with h0 | h0
    · exact .inl h0
    · refine .inr ⟨g, rfl, Nat.le_trans (by simp) hg, fun i hi => ?_⟩
      rw [hrow.cellAt i (by omega)]
      simp [List.getD, List.getElem?_eq_getElem hi, encZ]

/-- The map is cleared. -/
theorem IsDisk.clear {w : World} {B bl bm : Nat} {d : Mt.Dk} (h : IsDisk w B bl bm d) (ty : TypeId) : ∃ w', (Builtin.clear_ #[43] ty #[.map (some bm)]).run Try.prog w = .ok (.tuple #[]) w' ∧ IsDisk w' B bl bm { d with waits := Mt.noWaits d.lasts.length } ∧ OnlyS [B, bl, bm] w w' := by
  obtain ⟨D, ⟨es, clock, hb, F, hs, hD⟩, hW⟩ := h.waits
  refine ⟨setBlock w bm (.map #[] clock), ?_, ?_, ?_⟩
  · simp [Builtin.clear_, run_underlying Try.underlying43, MapKept.run_getObj_map hb, run_setObj_map _ hb, Result.andThen]
    rfl
  · refine h.setWaits _ (h.ok.clean d.lasts rfl h.ok.lasts) ⟨rfl, rfl, rfl, by simp [setBlock], fun i _ hi => heap_setBlock_other hb _ (fun e => hi (by rw [e]))⟩ (.map []) 0 ?_ (Waits.none _)
    exact ⟨#[], clock, heap_setBlock_same hb _, ⟨by simp, stamped_empty clock, by simp⟩, Nat.le_refl _, rfl⟩
  · exact ⟨rfl, rfl, rfl, by simp [setBlock], fun k _ hk => heap_setBlock_other hb _ (fun e => hk (by rw [e]; simp))⟩
end Go.Proofs.Ytmahkgkhnpffeaa
