/-
  Some texts of one proof, one behind the other.
-/
import Derived.Maps.OwnSet
import Derived.Maps.RangeWalk
import Derived.Deep.QuietTactic
import Derived.BigQuiet
import Derived.Outline
import Derived.IntWalk
import Derived.WalkSpells
import Derived.WalkLawsBesides
import Derived.Test.YtnioagojiipjlaaGreatPk2
import Derived.Test.YtnioagojiipjlaaGreatPk4
set_option linter.unusedVariables false
set_option linter.unusedSimpArgs false

/-
  How a disk lies in memory: a block of eight cells, a row of sectors, a map of those that wait.
-/
namespace Go.Proofs.YtnioagojiipjlaaGreat
open Go.RowKit Go.Maps

theorem Tryz.infoSec : (Tryz.prog.info? 72).map (fun i => (i.zero, i.size, i.bytes)) = some (some (.agg (Mt.cs Mt.blank).toArray), 128, 128) := by kernel_rfl
theorem Tryz.szSec : (Tryz.prog.info? 72).map (·.size) = some 128 := by kernel_rfl
theorem Tryz.szDisk : (Tryz.prog.info? 64).map (·.size) = some 8 := by kernel_rfl
theorem zeroSec (w : World) : (zeroValue 72).run Tryz.prog w = .ok (.agg (Mt.cs Mt.blank).toArray) w := by kernel_rfl
theorem keyLaw : Keyed Tryz.prog 3 := int_keyed Tryz.underlying3

/-! ### how a sector's bytes read -/
theorem Mt.cs_inj : ∀ {a b : List UInt8}, Mt.cs a = Mt.cs b → a = b
  | [], [], _ => rfl
  | [], _ :: _, h => by simp [Mt.cs] at h
  | _ :: _, [], h => by simp [Mt.cs] at h
  | x :: r, y :: s, h => by
    simp only [Mt.cs, List.map_cons, List.cons.injEq, Value.int.injEq, true_and] at h
    rw [Mt.u8_ext (Int.ofNat.inj h.1), Mt.cs_inj (a := r) (b := s) h.2]
/-- A sector as a value. -/
def secV (L : List UInt8) : Value := .agg (Mt.cs L).toArray
theorem secV_inj {a b : List UInt8} (h : secV a = secV b) : a = b := by
  unfold secV at h
  exact Mt.cs_inj (by simpa using h)
open Classical in
/-- How a sector reads, as an element of a map. -/
noncomputable def secElem (v : Value) : Option (DataW Unit × List MemPlace) := if h : ∃ L : List UInt8, L.length = 128 ∧ v = secV L then some (.lit (.string h.choose), []) else none
theorem secElem_mk (L : List UInt8) (h : L.length = 128) : secElem (secV L) = some (.lit (.string L), []) := by
  have hx : ∃ M : List UInt8, M.length = 128 ∧ secV L = secV M := ⟨L, h, rfl⟩
  unfold secElem
  rw [dif_pos hx, secV_inj hx.choose_spec.2.symm]
theorem secElem_inv {v : Value} {z : DataW Unit × List MemPlace} (h : secElem v = some z) : ∃ L : List UInt8, L.length = 128 ∧ v = secV L ∧ z = (.lit (.string L), []) := by
  unfold secElem at h
  split at h
  · rename_i hx
    cases h
    exact ⟨_, hx.choose_spec.1, hx.choose_spec.2, rfl⟩
  · cases h

/-! ### what waits, as a map reads -/
/-- The map reads as what waits. -/
structure Waits (D : DataW Unit) (W : List (Option (List UInt8))) : Prop where
  has : ∀ i : Int, Maps.has D (.int .i64 i) = true ↔ 0 ≤ i ∧ ∃ b, W[i.toNat]? = some (some b)
  at' : ∀ (i : Nat) b zd, W[i]? = some (some b) → D.atKey (.int .i64 (i : Int)) zd = .lit (.string b)

theorem Waits.none (n : Nat) : Waits (.map []) (Mt.noWaits n) := ⟨fun i => ⟨(fun h => by cases h), fun ⟨_, b, hb⟩ => absurd hb Mt.noWaits_none⟩, fun i b zd hb => absurd hb Mt.noWaits_none⟩
theorem keyLit (i : Int) : WideAt.IsKeyLit (.int .i64 i) := trivial
theorem Waits.put {D : DataW Unit} {W : List (Option (List UInt8))} (h : Waits D W) (hD : Maps.IsMap D) (i : Nat) (hi : i < W.length) (b : List UInt8) : Waits (D.put (.int .i64 (i : Int)) (.lit (.string b))) (W.set i (some b)) := by
  refine ⟨fun j => ?_, fun j c zd hc => ?_⟩
  · by_cases hj : j = (i : Int)
    · subst hj
      rw [Maps.has_put_same hD (keyLit _)]
      simp [hi]
    · have hne : (Lit.int .i64 j) ≠ .int .i64 (i : Int) := fun e => hj (by cases e; rfl)
      rw [Maps.has_put_other hne, h.has j]
      refine ⟨fun ⟨h0, hb⟩ => ⟨h0, ?_⟩, fun ⟨h0, hb⟩ => ⟨h0, ?_⟩⟩
      · rw [List.getElem?_set_ne (by omega)]; exact hb
      · rw [List.getElem?_set_ne (by omega)] at hb; exact hb
  · by_cases hj : j = i
    · subst hj
      rw [List.getElem?_set_self hi] at hc
      cases hc
      exact Maps.atKey_put_same hD (keyLit _) _ _
    · have hne : (Lit.int .i64 (j : Int)) ≠ .int .i64 (i : Int) := fun e => hj (by cases e; rfl)
      rw [List.getElem?_set_ne (fun e => hj e.symm)] at hc
      rw [Maps.atKey_put_other hne]
      exact h.at' j c zd hc

/-! ### a disk -/
/-- The row of the sectors that last. -/
def flat (L : List (List UInt8)) : Array Value := (Mt.cs L.flatten).toArray
/-- A disk's cells. -/
def dkCells (bl bm : Nat) (d : Mt.Dk) : Array Value :=
  #[.slice (some ⟨bl, 0, none⟩) d.lasts.length d.lasts.length, .map (some bm), .int .i64 (d.room : Int), .bool d.off, .int .i64 (d.cut : Int), .int .u64 (d.keep : Int), .int .i64 d.torn, .int .i64 d.at']

/-- A disk lies in a block, its sectors in another, what waits in a map. -/
structure IsDisk (w : World) (B bl bm : Nat) (d : Mt.Dk) : Prop where
  ok : d.Ok
  row : w.heap[B]? = some (.cells (dkCells bl bm d) 64 (0, 0))
  secs : w.heap[bl]? = some (.cells (flat d.lasts) 72 (0, 0))
  waits : ∃ D : DataW Unit, w.ownsMap Tryz.prog 3 secElem bm (Maps.size D) D ∧ Waits D d.waits

theorem IsDisk.setTears {w : World} {B bl bm : Nat} {d : Mt.Dk} (h : IsDisk w B bl bm d) (T : List (List UInt8 × List UInt8 × List UInt8)) : IsDisk w B bl bm { d with tears := T } := ⟨h.ok.setTears T, h.row, h.secs, h.waits⟩
theorem ownsMap_block {w u : World} {P : Program} {k : TypeId} {R : Value → Option (DataW Unit × List MemPlace)} {b n : Nat} {D : DataW Unit} (h : w.ownsMap P k R b n D) (hb : u.heap[b]? = w.heap[b]?) : u.ownsMap P k R b n D := by
  obtain ⟨es, clock, h1, h2⟩ := h
  exact ⟨es, clock, hb.trans h1, h2⟩
theorem ownsMap_exact {w : World} {P : Program} {k : TypeId} {R : Value → Option (DataW Unit × List MemPlace)} {b n : Nat} {D : DataW Unit} (h : w.ownsMap P k R b n D) : w.ownsMap P k R b (Maps.size D) D := by
  obtain ⟨es, clock, h1, h2, _, h4⟩ := h
  exact ⟨es, clock, h1, h2, by rw [h4]; simp [Maps.size, length_sorted], h4⟩
theorem ownsMap_ne {w : World} {P : Program} {k : TypeId} {R : Value → Option (DataW Unit × List MemPlace)} {b n g : Nat} {D : DataW Unit} {cs : Array Value} {t : TypeId} {fr : Nat × Nat} (h : w.ownsMap P k R b n D) (hg : w.heap[g]? = some (.cells cs t fr)) : b ≠ g := by
  rintro rfl
  obtain ⟨es, clock, h1, _⟩ := h
  rw [h1] at hg; cases hg

section
variable {w u : World} {B bl bm : Nat} {d : Mt.Dk}
theorem IsDisk.kept (h : IsDisk w B bl bm d) (h1 : u.heap[B]? = w.heap[B]?) (h2 : u.heap[bl]? = w.heap[bl]?) (h3 : u.heap[bm]? = w.heap[bm]?) : IsDisk u B bl bm d := by
  obtain ⟨D, hD, hW⟩ := h.waits
  exact ⟨h.ok, h1.trans h.row, h2.trans h.secs, D, ownsMap_block hD h3, hW⟩
theorem IsDisk.ltB (h : IsDisk w B bl bm d) : B < w.heap.size := lt_of_block h.row
theorem IsDisk.ltL (h : IsDisk w B bl bm d) : bl < w.heap.size := lt_of_block h.secs
theorem IsDisk.ltM (h : IsDisk w B bl bm d) : bm < w.heap.size := by
  obtain ⟨D, hD, _⟩ := h.waits
  exact hD.lt
theorem IsDisk.neBL (h : IsDisk w B bl bm d) : B ≠ bl := by
  rintro rfl
  have h1 := h.row
  rw [h.secs] at h1
  simp at h1
theorem IsDisk.neMB (h : IsDisk w B bl bm d) : bm ≠ B := by
  obtain ⟨D, hD, _⟩ := h.waits
  exact ownsMap_ne hD h.row
theorem IsDisk.neML (h : IsDisk w B bl bm d) : bm ≠ bl := by
  obtain ⟨D, hD, _⟩ := h.waits
  exact ownsMap_ne hD h.secs
theorem IsDisk.only (h : IsDisk w B bl bm d) {S : List Nat} (ho : OnlyS S w u) (h1 : B ∉ S) (h2 : bl ∉ S) (h3 : bm ∉ S) : IsDisk u B bl bm d :=
  h.kept (ho.block _ h.ltB h1) (ho.block _ h.ltL h2) (ho.block _ h.ltM h3)
theorem IsDisk.below (h : IsDisk w B bl bm d) (hb : Below w.heap.size w u) : IsDisk u B bl bm d := h.kept (hb.block _ h.ltB) (hb.block _ h.ltL) (hb.block _ h.ltM)
theorem IsDisk.drew (h : IsDisk w B bl bm d) : IsDisk w.drew B bl bm d := ⟨h.ok, h.row, h.secs, h.waits⟩
theorem IsDisk.drewN (n : Nat) (h : IsDisk w B bl bm d) : IsDisk (w.drewN n) B bl bm d := ⟨h.ok, h.row, h.secs, h.waits⟩
theorem IsDisk.alloc (h : IsDisk w B bl bm d) (o : Obj) : IsDisk (w.alloc o) B bl bm d := h.below ((Below.refl _ _).alloc (Nat.le_refl _) o)

/-- The disk's fields, as they are loaded. -/
theorem IsDisk.c0 (h : IsDisk w B bl bm d) : w.cell? ⟨B, 0, none⟩ = some (.slice (some ⟨bl, 0, none⟩) d.lasts.length d.lasts.length) := by rw [cell_of_row _ _ _ _ _ _ h.row]; rfl
theorem IsDisk.c1 (h : IsDisk w B bl bm d) : w.cell? ⟨B, 1, none⟩ = some (.map (some bm)) := by rw [cell_of_row _ _ _ _ _ _ h.row]; rfl
theorem IsDisk.c2 (h : IsDisk w B bl bm d) : w.cell? ⟨B, 2, none⟩ = some (.int .i64 (d.room : Int)) := by rw [cell_of_row _ _ _ _ _ _ h.row]; rfl
theorem IsDisk.c3 (h : IsDisk w B bl bm d) : w.cell? ⟨B, 3, none⟩ = some (.bool d.off) := by rw [cell_of_row _ _ _ _ _ _ h.row]; rfl
theorem IsDisk.c4 (h : IsDisk w B bl bm d) : w.cell? ⟨B, 4, none⟩ = some (.int .i64 (d.cut : Int)) := by rw [cell_of_row _ _ _ _ _ _ h.row]; rfl
theorem IsDisk.c5 (h : IsDisk w B bl bm d) : w.cell? ⟨B, 5, none⟩ = some (.int .u64 (d.keep : Int)) := by rw [cell_of_row _ _ _ _ _ _ h.row]; rfl
theorem IsDisk.c6 (h : IsDisk w B bl bm d) : w.cell? ⟨B, 6, none⟩ = some (.int .i64 d.torn) := by rw [cell_of_row _ _ _ _ _ _ h.row]; rfl
theorem IsDisk.c7 (h : IsDisk w B bl bm d) : w.cell? ⟨B, 7, none⟩ = some (.int .i64 d.at') := by rw [cell_of_row _ _ _ _ _ _ h.row]; rfl
theorem IsDisk.f (h : IsDisk w B bl bm d) (i : Nat) : w.frozen? ⟨B, i, none⟩ = false := frozen_of_row _ _ _ _ _ h.row

/-- A field is written. -/
theorem IsDisk.set (h : IsDisk w B bl bm d) (i : Nat) (v : Value) (e : Mt.Dk) (hok : e.Ok) (hl : e.lasts = d.lasts) (hw : e.waits = d.waits) (hc : (dkCells bl bm d).setIfInBounds i v = dkCells bl bm e) : IsDisk (w.setCell ⟨B, i, none⟩ v) B bl bm e := by
  have hr := heap_setCell_same w B i _ _ v h.row
  rw [hc] at hr
  refine ⟨hok, hr, ?_, ?_⟩
  · rw [heap_setCell_other _ _ _ _ (Ne.symm h.neBL), hl]; exact h.secs
  · obtain ⟨D, hD, hW⟩ := h.waits
    exact ⟨D, ownsMap_block hD (heap_setCell_other _ _ _ _ h.neMB), by rw [hw]; exact hW⟩
/-- The sectors are written. -/
theorem IsDisk.setSecs (h : IsDisk w B bl bm d) (L : List (List UInt8)) (hok : ({ d with lasts := L } : Mt.Dk).Ok) (hl : L.length = d.lasts.length) : IsDisk (w.setRow bl (flat L)) B bl bm { d with lasts := L } := by
  refine ⟨hok, ?_, setRow_heap _ _ _ _ _ _ h.secs, ?_⟩
  · rw [setRow_other _ _ _ _ h.neBL, h.row]
    unfold dkCells
    rw [hl]
  · obtain ⟨D, hD, hW⟩ := h.waits
    exact ⟨D, ownsMap_block hD (setRow_other _ _ _ _ h.neML), hW⟩
/-- What waits is another. -/
theorem IsDisk.setWaits (h : IsDisk w B bl bm d) (W : List (Option (List UInt8))) (hok : ({ d with waits := W } : Mt.Dk).Ok) (hg : w.grownBy u (some bm)) (D : DataW Unit) (n : Nat) (hD : u.ownsMap Tryz.prog 3 secElem bm n D) (hW : Waits D W) : IsDisk u B bl bm { d with waits := W } := by
  refine ⟨hok, ?_, ?_, D, ownsMap_exact hD, hW⟩
  · rw [hg.block B h.ltB (fun e => h.neMB (by cases e; rfl))]; exact h.row
  · rw [hg.block bl h.ltL (fun e => h.neML (by cases e; rfl))]; exact h.secs
end

theorem Mt.flatten_split : ∀ (L : List (List UInt8)) (i : Nat) (hi : i < L.length), (∀ j (h : j < L.length), (L[j]).length = 128) → L.flatten.take (128 * i) = (L.take i).flatten ∧ L.flatten.drop (128 * i) = (L.drop i).flatten
  | [], i, hi, _ => by simp at hi
  | a :: r, 0, _, _ => by simp
  | a :: r, i + 1, hi, h => by
    have ha : a.length = 128 := h 0 (by simp)
    have ih := Mt.flatten_split r i (by simpa using hi) (fun j hj => h (j + 1) (by simpa using hj))
    have e : 128 * (i + 1) = a.length + 128 * i := by omega
    rw [List.flatten_cons, List.take_succ_cons, List.drop_succ_cons, e, List.take_length_add_append, List.drop_length_add_append, ih.1, ih.2]
    simp
theorem flat_size (L : List (List UInt8)) (h : ∀ j (h : j < L.length), (L[j]).length = 128) : (flat L).size = 128 * L.length := by
  unfold flat
  simp only [List.size_toArray, Mt.cs_length]
  have : ∀ L : List (List UInt8), (∀ i (h : i < L.length), (L[i]).length = 128) → L.flatten.length = 128 * L.length := by
    intro L
    induction L with
    | nil => intro _; rfl
    | cons a r ih =>
      intro hL
      rw [List.flatten_cons, List.length_append, List.length_cons, ih (fun i hi => hL (i + 1) (by simpa using hi)), show a.length = 128 from hL 0 (by simp)]
      omega
  exact this L h
theorem Mt.cs_drop (l : List UInt8) (n : Nat) : (Mt.cs l).drop n = Mt.cs (l.drop n) := by simp [Mt.cs]
/-- A part of a sector is written. -/
theorem flat_put (L : List (List UInt8)) (h : ∀ j (h : j < L.length), (L[j]).length = 128) (i n : Nat) (hi : i < L.length) (X : List UInt8) (hX : X.length = n) (hn : n ≤ 128) :
    ((flat L).toList.take (128 * i) ++ Mt.cs X ++ (flat L).toList.drop (128 * i + n)).toArray = flat (L.set i (X ++ (L[i]).drop n)) := by
  subst hX
  have hs := Mt.flatten_split L i hi h
  have hc : L.drop i = L[i] :: L.drop (i + 1) := List.drop_eq_getElem_cons hi
  apply Array.ext'
  unfold flat
  simp only []
  rw [Mt.cs_take, ← List.drop_drop, Mt.cs_drop, Mt.cs_drop, hs.1, hs.2, hc, List.flatten_cons, List.drop_append_of_le_length (by rw [h i hi]; exact hn), ← Mt.cs_append, ← Mt.cs_append, List.set_eq_take_append_cons_drop, if_pos hi]
  simp
/-- A sector's bytes. -/
theorem flat_get (L : List (List UInt8)) (h : ∀ j (h : j < L.length), (L[j]).length = 128) (i j : Nat) (hi : i < L.length) (hj : j < 128) : (flat L)[128 * i + j]? = some (.int .u8 (((L[i]).getD j 0).toNat : Int)) := by
  have hs := Mt.flatten_split L i hi h
  have hc : L.drop i = L[i] :: L.drop (i + 1) := List.drop_eq_getElem_cons hi
  have e : L.flatten[128 * i + j]? = (L.flatten.drop (128 * i))[j]? := by rw [List.getElem?_drop]
  unfold flat
  simp only [List.getElem?_toArray, Mt.cs, List.getElem?_map]
  rw [e, hs.2, hc, List.flatten_cons, List.getElem?_append_left (by rw [h i hi]; exact hj)]
  have hl : j < (L[i]).length := by rw [h i hi]; exact hj
  simp [List.getD, List.getElem?_eq_getElem hl]

end Go.Proofs.YtnioagojiipjlaaGreat

/-
  What the disk's small calls come to: Off, Room, Sectors, ask, torn, On, Limit, Cut.
-/
namespace Go.Proofs.YtnioagojiipjlaaGreat
open Go.RowKit Go.Maps

section
variable {w : World} {B bl bm : Nat} {d : Mt.Dk}

theorem room_any (h : IsDisk w B bl bm d) : Calls Tryz.prog 61 #[.pointer (some ⟨B, 0, none⟩)] w fun e w' => e = .returned (.int .i64 (d.room : Int)) ∧ w = w' := by
  have hc := h.c2
  clear h
  go_enter Tryz.func61, Tryz.ntmps61
  go_wp2
  go_ret
  exact ⟨rfl, rfl⟩
theorem room_nil (w : World) : Calls Tryz.prog 61 #[.pointer none] w fun e w' => e = .returned (.int .i64 0) ∧ w = w' := by
  go_enter Tryz.func61, Tryz.ntmps61
  go_wp2
  go_ret
  exact ⟨rfl, rfl⟩
theorem sectors_any (h : IsDisk w B bl bm d) : Calls Tryz.prog 36 #[.pointer (some ⟨B, 0, none⟩)] w fun e w' => e = .returned (.int .i64 (d.lasts.length : Int)) ∧ w = w' := by
  have hc := h.c0
  clear h
  go_enter Tryz.func36, Tryz.ntmps36
  go_wp2
  go_ret
  exact ⟨rfl, rfl⟩
theorem sectors_nil (w : World) : Calls Tryz.prog 36 #[.pointer none] w fun e w' => e = .returned (.int .i64 0) ∧ w = w' := by
  go_enter Tryz.func36, Tryz.ntmps36
  go_wp2
  go_ret
  exact ⟨rfl, rfl⟩

theorem ask_nil (i : Int) (w : World) : Calls Tryz.prog 81 #[.pointer none, .int .i64 i] w fun e w' => e = .returned (.int .i64 1) ∧ w = w' := by
  go_enter Tryz.func81, Tryz.ntmps81
  go_wp2
  go_ret
  exact ⟨rfl, rfl⟩
theorem ask_any (h : IsDisk w B bl bm d) (i : Int) : Calls Tryz.prog 81 #[.pointer (some ⟨B, 0, none⟩), .int .i64 i] w fun e w' => e = .returned (.int .i64 (d.ask i)) ∧ w = w' := by
  have h0 := h.c0
  have h3 := h.c3
  have HR := Lib.hid (show d.ask i = if d.off then 10 else if i < 0 ∨ (d.lasts.length : Int) ≤ i then 2 else 0 from rfl)
  have hn : d.lasts.length ≤ 8192 := h.ok.most
  clear h
  generalize d.ask i = r at HR ⊢
  generalize d.lasts.length = n at *
  generalize d.off = o at *
  cases o with
  | true =>
    go_enter Tryz.func81, Tryz.ntmps81
    go_wp2
    go_ret
    exact ⟨Mt.ret_int (by rw [HR.out]; rfl), rfl⟩
  | false =>
    by_cases h1 : i < 0
    · go_enter Tryz.func81, Tryz.ntmps81
      go_wp2
      go_ret
      exact ⟨Mt.ret_int (by rw [HR.out]; simp [h1]), rfl⟩
    · have h1' : decide (i < 0) = false := decide_eq_false h1
      by_cases h2 : (n : Int) ≤ i
      · go_enter Tryz.func81, Tryz.ntmps81
        go_wp2
        go_ret
        exact ⟨Mt.ret_int (by rw [HR.out]; simp [h2]), rfl⟩
      · have h2' : decide ((n : Int) ≤ i) = false := decide_eq_false h2
        go_enter Tryz.func81, Tryz.ntmps81
        go_wp2
        go_ret
        exact ⟨Mt.ret_int (by rw [HR.out]; simp [h1, h2]), rfl⟩

theorem torn_any (i : Int) (w : World) (hi : -9223372036854775808 ≤ i ∧ i ≤ 9223372036854775807) : Calls Tryz.prog 77 #[.int .i64 i] w fun e w' => e = .returned (.int .i64 (Mt.tornN i : Int)) ∧ w = w' := by
  have HR := Lib.hid (show (Mt.tornN i : Int) = ((i.toNat % 129 : Nat) : Int) from rfl)
  generalize (Mt.tornN i : Int) = r at HR ⊢
  go_enter Tryz.func77, Tryz.ntmps77
  go_wp2
  all_goals
    go_ret
    exact ⟨Mt.ret_int (by rw [HR.out]; omega), rfl⟩
theorem on_nil (w : World) : Calls Tryz.prog 30 #[.pointer none] w fun e w' => e = .returned (.tuple #[]) ∧ w = w' := by
  go_enter Tryz.func30, Tryz.ntmps30
  go_wp2
  refine bodyPost_ret (results_none rfl _ _ _) rfl ?_
  exact ⟨rfl, rfl⟩
theorem on_any (h : IsDisk w B bl bm d) : Calls Tryz.prog 30 #[.pointer (some ⟨B, 0, none⟩)] w fun e w' => e = .returned (.tuple #[]) ∧ IsDisk w' B bl bm d.on ∧ OnlyS [B, bl, bm] w w' := by
  have h3 := h.c3
  have h4 := h.c4
  have hf := h.f 3
  have hg := h.f 4
  have HP : Hid (IsDisk ((w.setCell ⟨B, 3, none⟩ (.bool false)).setCell ⟨B, 4, none⟩ (.int .i64 0)) B bl bm d.on ∧ OnlyS [B, bl, bm] w ((w.setCell ⟨B, 3, none⟩ (.bool false)).setCell ⟨B, 4, none⟩ (.int .i64 0))) := Lib.hid (by
    refine ⟨((h.set 3 (.bool false) { d with off := false } (h.ok.setOff false) rfl rfl rfl).set 4 (.int .i64 0) d.on h.ok.on rfl rfl rfl), ?_⟩
    exact ((OnlyS.refl _ _).setCell (by simp) _).setCell (by simp) _)
  clear h
  go_enter Tryz.func30, Tryz.ntmps30
  go_wp2
  refine bodyPost_end (results_none rfl _ _ _) rfl ?_
  exact ⟨rfl, HP.out.1, HP.out.2⟩
theorem limit_nil (n : Int) (w : World) : Calls Tryz.prog 24 #[.pointer none, .int .i64 n] w fun e w' => e = .returned (.tuple #[]) ∧ w = w' := by
  go_enter Tryz.func24, Tryz.ntmps24
  go_wp2
  refine bodyPost_ret (results_none rfl _ _ _) rfl ?_
  exact ⟨rfl, rfl⟩
theorem limit_any (h : IsDisk w B bl bm d) (n : Int) : Calls Tryz.prog 24 #[.pointer (some ⟨B, 0, none⟩), .int .i64 n] w fun e w' => e = .returned (.tuple #[]) ∧ IsDisk w' B bl bm (d.limit n) ∧ OnlyS [B, bl, bm] w w' := by
  have h0 := h.c0
  have h2 := h.c2
  have hf := h.f 2
  have hn : d.lasts.length ≤ 8192 := h.ok.most
  have HP : ∀ k : Int, k = (min n.toNat d.lasts.length : Nat) → Hid (IsDisk (w.setCell ⟨B, 2, none⟩ (.int .i64 k)) B bl bm (d.limit n) ∧ OnlyS [B, bl, bm] w (w.setCell ⟨B, 2, none⟩ (.int .i64 k))) := fun k hk => Lib.hid (by
    subst hk
    exact ⟨h.set 2 _ (d.limit n) (h.ok.limit n) rfl rfl rfl, (OnlyS.refl _ _).setCell (by simp) _⟩)
  have HQ := Lib.hid HP
  clear h HP
  generalize d.lasts.length = m at *
  generalize d.limit n = d' at *
  go_enter Tryz.func24, Tryz.ntmps24
  go_wp2
  all_goals
    refine bodyPost_end (results_none rfl _ _ _) rfl ?_
    exact ⟨rfl, (HQ.out _ (by omega)).out⟩

theorem made_all (z : Array Value) (v : Value) (n m : Nat) (hz : z.size = m) (hm : 0 < m) (h : ∀ j, j < m → z[j]! = v) : madeCells z n = Array.replicate n v := by
  unfold madeCells
  apply Array.ext
  · simp
  · intro i h1 h2
    simp [hz, h _ (Nat.mod_lt _ hm)]
theorem rep_get (m : Nat) (x : Value) (j : Nat) (hj : j < m) : ((List.replicate m x).toArray)[j]! = x := by
  rw [getElem!_pos _ _ (by simpa using hj)]
  simp
theorem madeFlat (k : Nat) : madeCells (Value.agg (Mt.cs Mt.blank).toArray).cells (k * 128) = flat (List.replicate k Mt.blank) := by
  have hb : Mt.cs Mt.blank = List.replicate 128 (Value.int .u8 0) := by simp [Mt.cs, Mt.blank]
  have hf : ∀ k, (List.replicate k Mt.blank).flatten = List.replicate (k * 128) 0 := by
    intro k
    induction k with
    | zero => rfl
    | succ k ih => rw [List.replicate_succ, List.flatten_cons, ih, Mt.blank, List.replicate_append_replicate]; congr 1; omega
  rw [hb]
  show madeCells (List.replicate 128 (Value.int .u8 0)).toArray (k * 128) = _
  rw [made_all _ (.int .u8 0) _ 128 (by rw [List.size_toArray, List.length_replicate]) (by decide) (fun j hj => rep_get 128 _ j hj)]
  unfold flat
  rw [hf]
  apply Array.ext'
  simp [Mt.cs]
theorem make_secs (k : Nat) (hk : k ≤ 8192) (w : World) : (Instr.makeSlice 61 (.int .i64 (k : Int)) (.int .i64 (k : Int))).run Tryz.prog w = .ok (.slice (some ⟨w.heap.size, 0, none⟩) k k) (w.alloc (.cells (flat (List.replicate k Mt.blank)) 72)) := by
  obtain ⟨i, hi, hz, hs, hb⟩ := info_parts Tryz.infoSec
  have h := run_make (P := Tryz.prog) w 61 72 i _ Tryz.underlying61 hi hz .i64 .i64 (k : Int) (k : Int) (by omega) (Int.le_refl _) (by rw [hb]; omega) (by omega)
  rw [Int.toNat_natCast, hs, madeFlat] at h
  exact h

theorem isDisk_new (w : World) (k : Nat) (hk : k ≤ 8192) : IsDisk (((w.alloc (.cells (flat (List.replicate k Mt.blank)) 72)).alloc (.map #[] 0)).alloc (.cells (dkCells w.heap.size (w.heap.size + 1) (Mt.Dk.new k)) 64)) (w.heap.size + 2) w.heap.size (w.heap.size + 1) (Mt.Dk.new k) := by
  have hl : (Mt.Dk.new k).lasts = List.replicate k Mt.blank := rfl
  have e1 : ∀ (u : World) (o : Obj), (u.alloc o).heap.size = u.heap.size + 1 := fun u o => by simp
  generalize h1 : w.alloc (.cells (flat (List.replicate k Mt.blank)) 72) = w1
  generalize h2 : w1.alloc (.map #[] 0) = w2
  have z1 : w1.heap.size = w.heap.size + 1 := by rw [← h1, e1]
  have z2 : w2.heap.size = w.heap.size + 2 := by rw [← h2, e1, z1]
  have b3 : ∀ o, Below w2.heap.size w2 (w2.alloc o) := fun o => (Below.refl _ _).alloc (Nat.le_refl _) _
  have b2 : Below w1.heap.size w1 w2 := by rw [← h2]; exact (Below.refl _ _).alloc (Nat.le_refl _) _
  refine ⟨Mt.Dk.ok_new k hk, ?_, ?_, .map [], ?_, Waits.none k⟩
  · rw [← z2]; exact heap_alloc_new _ _
  · rw [(b3 _).block _ (by omega), b2.block _ (by omega), ← h1]
    exact heap_alloc_new _ _
  · refine ownsMap_block (w := w2) ?_ ((b3 _).block _ (by omega))
    rw [← z1, ← h2]
    exact World.ownsMap_made _ _ _ _
set_option maxRecDepth 100000 in
theorem new_k (n z : Int) (k : Nat) (hk2 : k ≤ 8192) (hz : z = (k : Int)) (hn : (n = z ∧ 0 ≤ z ∧ z ≤ 8192) ∨ (n < 0 ∧ z = 0) ∨ (8192 < n ∧ z = 8192)) (w : World) : Calls Tryz.prog 6 #[.int .i64 n] w fun e w' => e = .returned (.pointer (some ⟨w.heap.size + 2, 0, none⟩)) ∧ IsDisk w' (w.heap.size + 2) w.heap.size (w.heap.size + 1) (Mt.Dk.new k) ∧ Below w.heap.size w w' := by
  have HM : ∀ u : World, (Instr.makeSlice 61 (.int .i64 z) (.int .i64 z)).run Tryz.prog u = .ok (.slice (some ⟨u.heap.size, 0, none⟩) k k) (u.alloc (.cells (flat (List.replicate k Mt.blank)) 72)) := fun u => by rw [hz]; exact make_secs k hk2 u
  have hd : dkCells w.heap.size (w.heap.size + 1) (Mt.Dk.new k) = #[.slice (some ⟨w.heap.size, 0, none⟩) k k, .map (some (w.heap.size + 1)), .int .i64 z, .bool false, .int .i64 0, .int .u64 0, .int .i64 0, .int .i64 0] := by unfold dkCells; simp [Mt.Dk.new, hz]
  have hp := isDisk_new w k hk2
  rw [hd] at hp
  have HP := Lib.hid hp
  have hmm := @run_makeMap Tryz.prog
  have HB : ∀ a b c : Obj, Below w.heap.size w (((w.alloc a).alloc b).alloc c) := fun a b c => (((Below.refl _ w).alloc (Nat.le_refl _) a).alloc (by simp) b).alloc (by simp; omega) c
  have HB' := Lib.hid HB
  clear hz hd hp HB
  generalize Mt.Dk.new k = D at HP ⊢
  generalize flat (List.replicate k Mt.blank) = F at HM HP
  rcases hn with ⟨rfl, h1, h2⟩ | ⟨h1, rfl⟩ | ⟨h1, rfl⟩
  all_goals
    go_enter Tryz.func6, Tryz.ntmps6
    go_wp2
    go_ret
    exact ⟨rfl, HP.out, HB'.out _ _ _⟩
theorem new_any (n : Int) (w : World) : Calls Tryz.prog 6 #[.int .i64 n] w fun e w' => e = .returned (.pointer (some ⟨w.heap.size + 2, 0, none⟩)) ∧ IsDisk w' (w.heap.size + 2) w.heap.size (w.heap.size + 1) (Mt.Dk.new (min n.toNat 8192)) ∧ Below w.heap.size w w' :=
  new_k n (min n.toNat 8192 : Nat) (min n.toNat 8192) (Nat.min_le_right _ _) rfl (by omega) w
theorem cut_nil (n : Int) (a b c : Int) (w : World) : Calls Tryz.prog 22 #[.pointer none, .int .i64 n, .agg #[.int .u64 a, .int .i64 b, .int .i64 c]] w fun e w' => e = .returned (.tuple #[]) ∧ Below w.heap.size w w' := by
  go_enter Tryz.func22, Tryz.ntmps22
  go_wp2
  refine bodyPost_ret (results_none rfl _ _ _) rfl ?_
  exact ⟨rfl, (Below.refl _ _).alloc (Nat.le_refl _) _⟩
theorem IsDisk.setCut (h : IsDisk w B bl bm d) (k a : Nat) (z b c : Int) (hz : z = (k : Int)) (hk : k ≤ 9223372036854775807) (ha : a < 18446744073709551616) (hb : -9223372036854775808 ≤ b ∧ b ≤ 9223372036854775807) (hc : -9223372036854775808 ≤ c ∧ c ≤ 9223372036854775807) :
    IsDisk ((((w.setCell ⟨B, 4, none⟩ (.int .i64 z)).setCell ⟨B, 5, none⟩ (.int .u64 (a : Int))).setCell ⟨B, 6, none⟩ (.int .i64 b)).setCell ⟨B, 7, none⟩ (.int .i64 c)) B bl bm (d.cutAt k a b c) := by
  subst hz
  have o := h.ok
  have o1 : ({ d with cut := k } : Mt.Dk).Ok := o.setCut k hk
  have o2 : ({ d with cut := k, keep := a } : Mt.Dk).Ok := ⟨o.len, o.most, o.lasts, o.waits, o.room, hk, ha, o.torn, o.at'⟩
  have o3 : ({ d with cut := k, keep := a, torn := b } : Mt.Dk).Ok := ⟨o.len, o.most, o.lasts, o.waits, o.room, hk, ha, hb, o.at'⟩
  have o4 : (d.cutAt k a b c).Ok := ⟨o.len, o.most, o.lasts, o.waits, o.room, hk, ha, hb, hc⟩
  exact (((h.set 4 _ _ o1 rfl rfl rfl).set 5 _ _ o2 rfl rfl rfl).set 6 _ _ o3 rfl rfl rfl).set 7 _ _ o4 rfl rfl rfl
set_option maxRecDepth 100000 in
theorem cut_any (h : IsDisk w B bl bm d) (n : Int) (a : Nat) (b c : Int) (hn : n ≤ 9223372036854775807) (ha : a < 18446744073709551616) (hb : -9223372036854775808 ≤ b ∧ b ≤ 9223372036854775807) (hc : -9223372036854775808 ≤ c ∧ c ≤ 9223372036854775807) : Calls Tryz.prog 22 #[.pointer (some ⟨B, 0, none⟩), .int .i64 n, .agg #[.int .u64 (a : Int), .int .i64 b, .int .i64 c]] w fun e w' => e = .returned (.tuple #[]) ∧ IsDisk w' B bl bm (d.cutAt n.toNat a b c) ∧ OnlyS [B, bl, bm] w w' := by
  have HP := Lib.hid (fun z hz => h.setCut n.toNat a z b c hz (by omega) ha hb hc)
  have HO : Hid (∀ x y u v o, OnlyS [B, bl, bm] w (((((w.setCell ⟨B, 4, none⟩ x).setCell ⟨B, 5, none⟩ y).setCell ⟨B, 6, none⟩ u).setCell ⟨B, 7, none⟩ v).alloc o).drew) := Lib.hid (fun x y u v o => ((((((OnlyS.refl _ _).setCell (by simp) _).setCell (by simp) _).setCell (by simp) _).setCell (by simp) _).alloc _).drew)
  have hlt := h.ltB
  have h4 := h.c4
  have h5 := h.c5
  have h6 := h.c6
  have h7 := h.c7
  have f4 := h.f 4
  have f5 := h.f 5
  have f6 := h.f 6
  have f7 := h.f 7
  clear h ha hb hc
  by_cases hn0 : n < 0
  · go_enter Tryz.func22, Tryz.ntmps22
    go_wp2
    go_region
    refine bodyPost_end (results_none rfl _ _ _) rfl ?_
    exact ⟨rfl, ((HP.out _ (by omega)).alloc _).drew, HO.out _ _ _ _ _⟩
  · go_enter Tryz.func22, Tryz.ntmps22
    go_wp2
    go_region
    refine bodyPost_end (results_none rfl _ _ _) rfl ?_
    exact ⟨rfl, ((HP.out _ (by omega)).alloc _).drew, HO.out _ _ _ _ _⟩
end
end Go.Proofs.YtnioagojiipjlaaGreat
