/-
  How a disk lies in memory: a block of eight cells, a row of sectors, a map of those that wait.
-/
import Derived.Test.YtmahkgkhnpffeaaGen
import Derived.Test.YtmahkgkhnpffeaaOnly
import Derived.Test.YtmahkgkhnpffeaaDkMath
import Derived.Maps.OwnSet
import Derived.Maps.RangeWalk
import Derived.Deep.QuietTactic
import Derived.BigQuiet
namespace Go.Proofs.Ytmahkgkhnpffeaa
open Go.RowKit Go.Maps

theorem Try.infoSec : (Try.prog.info? 47).map (fun i => (i.zero, i.size, i.bytes)) = some (some (.agg (Mt.cs Mt.blank).toArray), 128, 128) := by kernel_rfl
theorem Try.szSec : (Try.prog.info? 47).map (·.size) = some 128 := by kernel_rfl
theorem Try.szDisk : (Try.prog.info? 45).map (·.size) = some 8 := by kernel_rfl
theorem zeroSec (w : World) : (zeroValue 47).run Try.prog w = .ok (.agg (Mt.cs Mt.blank).toArray) w := by kernel_rfl
theorem keyLaw : Keyed Try.prog 3 := int_keyed Try.underlying3

/-! ### how a sector's bytes read -/
theorem Mt.cs_inj : ∀ {a b : List UInt8}, Mt.cs a = Mt.cs b → a = b
  | [], [], _ => rfl
  | [], _ :: _, h => by simp [Mt.cs] at h
  | _ :: _, [], h => by simp [Mt.cs] at h
  | x :: r, y :: s, h => by
    simp only [Mt.cs, List.map_cons, List.cons.injEq, Value.int.injEq, true_and] at h
    rw [Mt.u8_ext (Int.ofNat.inj h.1), Mt.cs_inj (a := r) (b := s) h.2]
/-- A sector as a value. -/
def secV (L : List UInt8) : Value := .agg (Mt.cs L).toArray
theorem secV_inj {a b : List UInt8} (h : secV a = secV b) : a = b := by
  unfold secV at h
  exact Mt.cs_inj (by simpa using h)
open Classical in
/-- How a sector reads, as an element of a map. -/
noncomputable def secElem (v : Value) : Option (DataW Unit × List MemPlace) := if h : ∃ L : List UInt8, L.length = 128 ∧ v = secV L then some (.lit (.string h.choose), []) else none
theorem secElem_mk (L : List UInt8) (h : L.length = 128) : secElem (secV L) = some (.lit (.string L), []) := by
  have hx : ∃ M : List UInt8, M.length = 128 ∧ secV L = secV M := ⟨L, h, rfl⟩
  unfold secElem
  rw [dif_pos hx, secV_inj hx.choose_spec.2.symm]
theorem secElem_inv {v : Value} {z : DataW Unit × List MemPlace} (h : secElem v = some z) : ∃ L : List UInt8, L.length = 128 ∧ v = secV L ∧ z = (.lit (.string L), []) := by
  unfold secElem at h
  split at h
  · rename_i hx
    cases h
    exact ⟨_, hx.choose_spec.1, hx.choose_spec.2, rfl⟩
  · cases h

/-! ### what waits, as a map reads -/
/-- The map reads as what waits. -/
structure Waits (D : DataW Unit) (W : List (Option (List UInt8))) : Prop where
  has : ∀ i : Int, Maps.has D (.int .i64 i) = true ↔ 0 ≤ i ∧ ∃ b, W[i.toNat]? = some (some b)
  at' : ∀ (i : Nat) b zd, W[i]? = some (some b) → D.atKey (.int .i64 (i : Int)) zd = .lit (.string b)

theorem Waits.none (n : Nat) : Waits (.map []) (Mt.noWaits n) := ⟨fun i => ⟨(fun h => by cases h), fun ⟨_, b, hb⟩ => absurd hb Mt.noWaits_none⟩, fun i b zd hb => absurd hb Mt.noWaits_none⟩
theorem keyLit (i : Int) : WideAt.IsKeyLit (.int .i64 i) := trivial
theorem Waits.put {D : DataW Unit} {W : List (Option (List UInt8))} (h : Waits D W) (hD : Maps.IsMap D) (i : Nat) (hi : i < W.length) (b : List UInt8) : Waits (D.put (.int .i64 (i : Int)) (.lit (.string b))) (W.set i (some b)) := by
  refine ⟨fun j => ?_, fun j c zd hc => ?_⟩
  · by_cases hj : j = (i : Int)
    · subst hj
      rw [Maps.has_put_same hD (keyLit _)]
      simp [hi]
    · have hne : (Lit.int .i64 j) ≠ .int .i64 (i : Int) := fun e => hj (by cases e; rfl)
      rw [Maps.has_put_other hne, h.has j]
      refine ⟨fun ⟨h0, hb⟩ => ⟨h0, ?_⟩, fun ⟨h0, hb⟩ => ⟨h0, ?_⟩⟩
      · rw [List.getElem?_set_ne (by omega)]; exact hb
      · rw [List.getElem?_set_ne (by omega)] at hb; exact hb
  · by_cases hj : j = i
    · subst hj
      rw [List.getElem?_set_self hi] at hc
      cases hc
      exact Maps.atKey_put_same hD (keyLit _) _ _
    · have hne : (Lit.int .i64 (j : Int)) ≠ .int .i64 (i : Int) := fun e => hj (by cases e; rfl)
      rw [List.getElem?_set_ne (fun e => hj e.symm)] at hc
      rw [Maps.atKey_put_other hne]
      exact h.at' j c zd hc

/-! ### a disk -/
/-- The row of the sectors that last. -/
def flat (L : List (List UInt8)) : Array Value := (Mt.cs L.flatten).toArray
/-- A disk's cells. -/
def dkCells (bl bm : Nat) (d : Mt.Dk) : Array Value :=
  #[.slice (some ⟨bl, 0, none⟩) d.lasts.length d.lasts.length, .map (some bm), .int .i64 (d.room : Int), .bool d.off, .int .i64 (d.cut : Int), .int .u64 (d.keep : Int), .int .i64 d.torn, .int .i64 d.at']

/-- A disk lies in a block, its sectors in another, what waits in a map. -/
structure IsDisk (w : World) (B bl bm : Nat) (d : Mt.Dk) : Prop where
  ok : d.Ok
  row : w.heap[B]? = some (.cells (dkCells bl bm d) 45 (0, 0))
  secs : w.heap[bl]? = some (.cells (flat d.lasts) 47 (0, 0))
  waits : ∃ D : DataW Unit, w.ownsMap Try.prog 3 secElem bm (Maps.size D) D ∧ Waits D d.waits

theorem ownsMap_block {w u : World} {P : Program} {k : TypeId} {R : Value → Option (DataW Unit × List MemPlace)} {b n : Nat} {D : DataW Unit} (h : w.ownsMap P k R b n D) (hb : u.heap[b]? = w.heap[b]?) : u.ownsMap P k R b n D := by
  obtain ⟨es, clock, h1, h2⟩ := h
  exact ⟨es, clock, hb.trans h1, h2⟩
theorem ownsMap_exact {w : World} {P : Program} {k : TypeId} {R : Value → Option (DataW Unit × List MemPlace)} {b n : Nat} {D : DataW Unit} (h : w.ownsMap P k R b n D) : w.ownsMap P k R b (Maps.size D) D := by
  obtain ⟨es, clock, h1, h2, _, h4⟩ := h
  exact ⟨es, clock, h1, h2, by rw [h4]; simp [Maps.size, length_sorted], h4⟩
theorem ownsMap_ne {w : World} {P : Program} {k : TypeId} {R : Value → Option (DataW Unit × List MemPlace)} {b n g : Nat} {D : DataW Unit} {cs : Array Value} {t : TypeId} {fr : Nat × Nat} (h : w.ownsMap P k R b n D) (hg : w.heap[g]? = some (.cells cs t fr)) : b ≠ g := by
  rintro rfl
  obtain ⟨es, clock, h1, _⟩ := h
  rw [h1] at hg; cases hg

section
variable {w u : World} {B bl bm : Nat} {d : Mt.Dk}
theorem IsDisk.kept (h : IsDisk w B bl bm d) (h1 : u.heap[B]? = w.heap[B]?) (h2 : u.heap[bl]? = w.heap[bl]?) (h3 : u.heap[bm]? = w.heap[bm]?) : IsDisk u B bl bm d := by
  obtain ⟨D, hD, hW⟩ := h.waits
  exact ⟨h.ok, h1.trans h.row, h2.trans h.secs, D, ownsMap_block hD h3, hW⟩
theorem IsDisk.ltB (h : IsDisk w B bl bm d) : B < w.heap.size := lt_of_block h.row
theorem IsDisk.ltL (h : IsDisk w B bl bm d) : bl < w.heap.size := lt_of_block h.secs
theorem IsDisk.ltM (h : IsDisk w B bl bm d) : bm < w.heap.size := by
  obtain ⟨D, hD, _⟩ := h.waits
  exact hD.lt
theorem IsDisk.neBL (h : IsDisk w B bl bm d) : B ≠ bl := by
  rintro rfl
  have h1 := h.row
  rw [h.secs] at h1
  simp at h1
theorem IsDisk.neMB (h : IsDisk w B bl bm d) : bm ≠ B := by
  obtain ⟨D, hD, _⟩ := h.waits
  exact ownsMap_ne hD h.row
theorem IsDisk.neML (h : IsDisk w B bl bm d) : bm ≠ bl := by
  obtain ⟨D, hD, _⟩ := h.waits
  exact ownsMap_ne hD h.secs
theorem IsDisk.only (h : IsDisk w B bl bm d) {S : List Nat} (ho : OnlyS S w u) (h1 : B ∉ S) (h2 : bl ∉ S) (h3 : bm ∉ S) : IsDisk u B bl bm d :=
  h.kept (ho.block _ h.ltB h1) (ho.block _ h.ltL h2) (ho.block _ h.ltM h3)
theorem IsDisk.below (h : IsDisk w B bl bm d) (hb : Below w.heap.size w u) : IsDisk u B bl bm d := h.kept (hb.block _ h.ltB) (hb.block _ h.ltL) (hb.block _ h.ltM)
theorem IsDisk.drew (h : IsDisk w B bl bm d) : IsDisk w.drew B bl bm d := ⟨h.ok, h.row, h.secs, h.waits⟩
theorem IsDisk.drewN (n : Nat) (h : IsDisk w B bl bm d) : IsDisk (w.drewN n) B bl bm d := ⟨h.ok, h.row, h.secs, h.waits⟩
theorem IsDisk.alloc (h : IsDisk w B bl bm d) (o : Obj) : IsDisk (w.alloc o) B bl bm d := h.below ((Below.refl _ _).alloc (Nat.le_refl _) o)

/-- The disk's fields, as they are loaded. -/
theorem IsDisk.c0 (h : IsDisk w B bl bm d) : w.cell? ⟨B, 0, none⟩ = some (.slice (some ⟨bl, 0, none⟩) d.lasts.length d.lasts.length) := by rw [cell_of_row _ _ _ _ _ _ h.row]; rfl
theorem IsDisk.c1 (h : IsDisk w B bl bm d) : w.cell? ⟨B, 1, none⟩ = some (.map (some bm)) := by rw [cell_of_row _ _ _ _ _ _ h.row]; rfl
theorem IsDisk.c2 (h : IsDisk w B bl bm d) : w.cell? ⟨B, 2, none⟩ = some (.int .i64 (d.room : Int)) := by rw [cell_of_row _ _ _ _ _ _ h.row]; rfl
theorem IsDisk.c3 (h : IsDisk w B bl bm d) : w.cell? ⟨B, 3, none⟩ = some (.bool d.off) := by rw [cell_of_row _ _ _ _ _ _ h.row]; rfl
theorem IsDisk.c4 (h : IsDisk w B bl bm d) : w.cell? ⟨B, 4, none⟩ = some (.int .i64 (d.cut : Int)) := by rw [cell_of_row _ _ _ _ _ _ h.row]; rfl
theorem IsDisk.c5 (h : IsDisk w B bl bm d) : w.cell? ⟨B, 5, none⟩ = some (.int .u64 (d.keep : Int)) := by rw [cell_of_row _ _ _ _ _ _ h.row]; rfl
theorem IsDisk.c6 (h : IsDisk w B bl bm d) : w.cell? ⟨B, 6, none⟩ = some (.int .i64 d.torn) := by rw [cell_of_row _ _ _ _ _ _ h.row]; rfl
theorem IsDisk.c7 (h : IsDisk w B bl bm d) : w.cell? ⟨B, 7, none⟩ = some (.int .i64 d.at') := by rw [cell_of_row _ _ _ _ _ _ h.row]; rfl
theorem IsDisk.f (h : IsDisk w B bl bm d) (i : Nat) : w.frozen? ⟨B, i, none⟩ = false := frozen_of_row _ _ _ _ _ h.row

/-- A field is written. -/
theorem IsDisk.set (h : IsDisk w B bl bm d) (i : Nat) (v : Value) (e : Mt.Dk) (hok : e.Ok) (hl : e.lasts = d.lasts) (hw : e.waits = d.waits) (hc : (dkCells bl bm d).setIfInBounds i v = dkCells bl bm e) : IsDisk (w.setCell ⟨B, i, none⟩ v) B bl bm e := by
  have hr := heap_setCell_same w B i _ _ v h.row
  rw [hc] at hr
  refine ⟨hok, hr, ?_, ?_⟩
  · rw [heap_setCell_other _ _ _ _ (Ne.symm h.neBL), hl]; exact h.secs
  · obtain ⟨D, hD, hW⟩ := h.waits
    exact ⟨D, ownsMap_block hD (heap_setCell_other _ _ _ _ h.neMB), by rw [hw]; exact hW⟩
/-- The sectors are written. -/
theorem IsDisk.setSecs (h : IsDisk w B bl bm d) (L : List (List UInt8)) (hok : ({ d with lasts := L } : Mt.Dk).Ok) (hl : L.length = d.lasts.length) : IsDisk (w.setRow bl (flat L)) B bl bm { d with lasts := L } := by
  refine ⟨hok, ?_, setRow_heap _ _ _ _ _ _ h.secs, ?_⟩
  · rw [setRow_other _ _ _ _ h.neBL, h.row]
    unfold dkCells
    rw [hl]
  · obtain ⟨D, hD, hW⟩ := h.waits
    exact ⟨D, ownsMap_block hD (setRow_other _ _ _ _ h.neML), hW⟩
/-- What waits is another. -/
theorem IsDisk.setWaits (h : IsDisk w B bl bm d) (W : List (Option (List UInt8))) (hok : ({ d with waits := W } : Mt.Dk).Ok) (hg : w.grownBy u (some bm)) (D : DataW Unit) (n : Nat) (hD : u.ownsMap Try.prog 3 secElem bm n D) (hW : Waits D W) : IsDisk u B bl bm { d with waits := W } := by
  refine ⟨hok, ?_, ?_, D, ownsMap_exact hD, hW⟩
  · rw [hg.block B h.ltB (fun e => h.neMB (by cases e; rfl))]; exact h.row
  · rw [hg.block bl h.ltL (fun e => h.neML (by cases e; rfl))]; exact h.secs
end

theorem Mt.flatten_split : ∀ (L : List (List UInt8)) (i : Nat) (hi : i < L.length), (∀ j (h : j < L.length), (L[j]).length = 128) → L.flatten.take (128 * i) = (L.take i).flatten ∧ L.flatten.drop (128 * i) = (L.drop i).flatten
  | [], i, hi, _ => by simp at hi
  | a :: r, 0, _, _ => by simp
  | a :: r, i + 1, hi, h => by
    have ha : a.length = 128 := h 0 (by simp)
    have ih := Mt.flatten_split r i (by simpa using hi) (fun j hj => h (j + 1) (by simpa using hj))
    have e : 128 * (i + 1) = a.length + 128 * i := by omega
    rw [List.flatten_cons, List.take_succ_cons, List.drop_succ_cons, e, List.take_length_add_append, List.drop_length_add_append, ih.1, ih.2]
    simp
theorem flat_size (L : List (List UInt8)) (h : ∀ j (h : j < L.length), (L[j]).length = 128) : (flat L).size = 128 * L.length := by
  unfold flat
  simp only [List.size_toArray, Mt.cs_length]
  have : ∀ L : List (List UInt8), (∀ i (h : i < L.length), (L[i]).length = 128) → L.flatten.length = 128 * L.length := by
    intro L
    induction L with
    | nil => intro _; rfl
    | cons a r ih =>
      intro hL
      rw [List.flatten_cons, List.length_append, List.length_cons, ih (fun i hi => hL (i + 1) (by simpa using hi)), show a.length = 128 from hL 0 (by simp)]
      omega
  exact this L h
theorem Mt.cs_drop (l : List UInt8) (n : Nat) : (Mt.cs l).drop n = Mt.cs (l.drop n) := by simp [Mt.cs]
/-- A part of a sector is written. -/
theorem flat_put (L : List (List UInt8)) (h : ∀ j (h : j < L.length), (L[j]).length = 128) (i n : Nat) (hi : i < L.length) (X : List UInt8) (hX : X.length = n) (hn : n ≤ 128) :
    ((flat L).toList.take (128 * i) ++ Mt.cs X ++ (flat L).toList.drop (128 * i + n)).toArray = flat (L.set i (X ++ (L[i]).drop n)) := by
  subst hX
  have hs := Mt.flatten_split L i hi h
  have hc : L.drop i = L[i] :: L.drop (i + 1) := List.drop_eq_getElem_cons hi
  apply Array.ext'
  unfold flat
  simp only []
  rw [Mt.cs_take, ← List.drop_drop, Mt.cs_drop, Mt.cs_drop, hs.1, hs.2, hc, List.flatten_cons, List.drop_append_of_le_length (by rw [h i hi]; exact hn), ← Mt.cs_append, ← Mt.cs_append, List.set_eq_take_append_cons_drop, if_pos hi]
  simp
/-- A sector's bytes. -/
theorem flat_get (L : List (List UInt8)) (h : ∀ j (h : j < L.length), (L[j]).length = 128) (i j : Nat) (hi : i < L.length) (hj : j < 128) : (flat L)[128 * i + j]? = some (.int .u8 (((L[i]).getD j 0).toNat : Int)) := by
  have hs := Mt.flatten_split L i hi h
  have hc : L.drop i = L[i] :: L.drop (i + 1) := List.drop_eq_getElem_cons hi
  have e : L.flatten[128 * i + j]? = (L.flatten.drop (128 * i))[j]? := by rw [List.getElem?_drop]
  unfold flat
  simp only [List.getElem?_toArray, Mt.cs, List.getElem?_map]
  rw [e, hs.2, hc, List.flatten_cons, List.getElem?_append_left (by rw [h i hi]; exact hj)]
  have hl : j < (L[i]).length := by rw [h i hi]; exact hj
  simp [List.getD, List.getElem?_eq_getElem hl]

end Go.Proofs.Ytmahkgkhnpffeaa
