/-
  What a call leaves as it was, where it turns some blocks alone.
-/
import Derived.Test.YtnlbhmjgeedgpaaDoorGen
import Derived.Deep.QuietTactic
import Derived.BigQuiet
set_option linter.unusedVariables false
set_option linter.unusedSimpArgs false
namespace Go.Proofs.YtnlbhmjgeedgpaaDoor
open Go.RowKit

theorem Tryd.szU8 : (Tryd.prog.info? 5).map (·.size) = some 1 := by kernel_rfl
theorem Tryd.infoU8 : (Tryd.prog.info? 5).map (fun i => (i.zero, i.size, i.bytes)) = some (some (.int .u8 0), 1, 1) := by kernel_rfl

/-! ### what a call leaves as it was -/
/-- Nothing but these blocks has turned, and new blocks may have come. -/
structure OnlyS (S : List Nat) (w w' : World) : Prop where
  os : w'.os = w.os
  tape : w'.tape = w.tape
  output : w'.output = w.output
  size : w.heap.size ≤ w'.heap.size
  block : ∀ k, k < w.heap.size → k ∉ S → w'.heap[k]? = w.heap[k]?
theorem OnlyS.refl (S : List Nat) (w : World) : OnlyS S w w := ⟨rfl, rfl, rfl, Nat.le_refl _, fun _ _ _ => rfl⟩
theorem OnlyS.trans {S : List Nat} {a b c : World} (h1 : OnlyS S a b) (h2 : OnlyS S b c) : OnlyS S a c :=
  ⟨h2.os.trans h1.os, h2.tape.trans h1.tape, h2.output.trans h1.output, Nat.le_trans h1.size h2.size, fun k hk hS => (h2.block k (Nat.lt_of_lt_of_le hk h1.size) hS).trans (h1.block k hk hS)⟩
theorem OnlyS.mono {S T : List Nat} {a b : World} (h : OnlyS S a b) (hT : ∀ k ∈ S, k ∈ T) : OnlyS T a b := ⟨h.os, h.tape, h.output, h.size, fun k hk hS => h.block k hk fun hk2 => hS (hT k hk2)⟩
theorem Below.onlyS {S : List Nat} {D : Nat} {w u : World} (h : Below D w u) (hD : w.heap.size ≤ D) : OnlyS S w u := ⟨h.os, h.tape, h.output, h.size, fun k hk _ => h.block k (by omega)⟩
theorem OnlyS.then {S : List Nat} {a b c : World} (h1 : OnlyS S a b) (h2 : Below b.heap.size b c) : OnlyS S a c := h1.trans (Below.onlyS h2 (Nat.le_refl _))
theorem OnlyS.drew {S : List Nat} {a b : World} (h : OnlyS S a b) : OnlyS S a b.drew := ⟨h.os, h.tape, h.output, h.size, h.block⟩
theorem OnlyS.drewN {S : List Nat} {a b : World} (n : Nat) (h : OnlyS S a b) : OnlyS S a (b.drewN n) := ⟨h.os, h.tape, h.output, h.size, h.block⟩
theorem OnlyS.alloc {S : List Nat} {a b : World} (h : OnlyS S a b) (o : Obj) : OnlyS S a (b.alloc o) := h.then ((Below.refl _ _).alloc (Nat.le_refl _) o)
theorem OnlyS.setRow {S : List Nat} {a b : World} (h : OnlyS S a b) {g : Nat} (hg : g ∈ S) (cs : Array Value) : OnlyS S a (b.setRow g cs) :=
  ⟨h.os, h.tape, h.output, by rw [setRow_size]; exact h.size, fun k hk hS => by rw [setRow_other _ _ _ _ (fun e => hS (by rw [e]; exact hg))]; exact h.block k hk hS⟩
theorem OnlyS.setCell {S : List Nat} {a b : World} (h : OnlyS S a b) {g i : Nat} (hg : g ∈ S) (v : Value) : OnlyS S a (b.setCell ⟨g, i, none⟩ v) := by
  have hb : Below 0 b (b.setCell ⟨g, i, none⟩ v) := Below.setCell (Below.refl 0 b) (Nat.zero_le _) v
  exact ⟨hb.os.trans h.os, hb.tape.trans h.tape, hb.output.trans h.output, Nat.le_trans h.size hb.size, fun k hk hS => by rw [heap_setCell_other _ _ _ _ (fun e => hS (by rw [e]; exact hg))]; exact h.block k hk hS⟩
theorem OnlyS.grown {S : List Nat} {a b c : World} (h : OnlyS S a b) {g : Nat} (hg : g ∈ S) (h2 : b.grownBy c (some g)) : OnlyS S a c :=
  h.trans ⟨h2.os, h2.tape, h2.output, h2.size, fun k hk hS => h2.block k hk (fun e => hS (by cases e; exact hg))⟩
theorem OnlyS.grown0 {S : List Nat} {a b c : World} (h : OnlyS S a b) (h2 : b.grownBy c none) : OnlyS S a c :=
  h.trans ⟨h2.os, h2.tape, h2.output, h2.size, fun k hk _ => h2.block k hk (fun e => by cases e)⟩
theorem OnlyS.toBelow {S : List Nat} {D : Nat} {a b : World} (h : OnlyS S a b) (hS : ∀ k ∈ S, D ≤ k) (hs : D ≤ a.heap.size) : Below D a b := ⟨h.os, h.tape, h.output, h.size, fun k hk => h.block k (by omega) (fun hm => by have := hS k hm; omega)⟩
theorem OnlyS.cell {S : List Nat} {a b : World} (h : OnlyS S a b) {p : Addr} (hp : p.block < a.heap.size) (hS : p.block ∉ S) : b.cell? p = a.cell? p := by
  unfold World.cell?
  rw [h.block _ hp hS]
theorem lt_of_block {w : World} {b : Nat} {o : Obj} (h : w.heap[b]? = some o) : b < w.heap.size := by
  rcases Nat.lt_or_ge b w.heap.size with h2 | h2
  · exact h2
  · rw [Array.getElem?_eq_none h2] at h; cases h

end Go.Proofs.YtnlbhmjgeedgpaaDoor
