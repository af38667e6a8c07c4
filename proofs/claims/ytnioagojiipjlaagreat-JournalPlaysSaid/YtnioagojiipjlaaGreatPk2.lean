/-
  Some texts of one proof, one behind the other.
-/
import Derived.Test.YtnioagojiipjlaaGreatProg
import Derived.WalkKit
import Derived.Lib.Hide
import Derived.Laws.CopyRow
import Derived.Laws.CopyOwn
import Derived.Laws.Rows
import Derived.Laws.AppendOwn
import Derived.ArgAppend
import Derived.StillTailTactics
import Derived.Deep.QuietTactic
import Derived.BigQuiet
import Derived.IntWalk
import Derived.WalkSpells
import Derived.WalkLawsBesides
import Derived.Ground.NamesProg
import Derived.Shelf.Strings.Repeat
import Derived.Test.YtnioagojiipjlaaGreatPk0
import Derived.Test.YtnioagojiipjlaaGreatPk1

/-
  Rules of the walk and plain facts that name no function: loads and stores of rows, copies, what a call leaves as it was.
-/
namespace Go.Proofs.YtnioagojiipjlaaGreat
open Go.RowKit
theorem own_mono {w : World} {b0 b1 : Nat} {e : TypeId} {size : Nat} {v : Value} {n : Nat} {xs : List Value} (h : w.ownsRow b1 e size v n xs) (hb : b0 ≤ b1) : w.ownsRow b0 e size v n xs := by
  obtain ⟨h1, h2⟩ := h
  refine ⟨h1, ?_⟩
  rcases h2 with h2 | ⟨g, cap, cur, e1, e2, e3⟩
  · exact .inl h2
  · exact .inr ⟨g, cap, cur, e1, by omega, e3⟩
theorem own_form {w : World} {b : Nat} {e : TypeId} {size : Nat} {v : Value} {n : Nat} {xs : List Value} (h : w.ownsRow b e size v n xs) (hn : 0 < n) : ∃ g cap, v = .slice (some ⟨g, 0, none⟩) n cap := by
  rcases h.2 with ⟨_, h2⟩ | ⟨g, cap, cur, e1, _⟩
  · omega
  · exact ⟨g, cap, e1⟩
theorem Mt.cs_getD (l : List UInt8) (j : Nat) (u : Value) (h : (Mt.cs l)[j]? = some u) : j < l.length ∧ u = .int .u8 ((l.getD j 0).toNat : Int) := by
  have hj : j < l.length := by
    rcases Nat.lt_or_ge j l.length with h2 | h2
    · exact h2
    · rw [List.getElem?_eq_none (by rw [Mt.cs_length]; exact h2)] at h; cases h
  refine ⟨hj, ?_⟩
  simp [Mt.cs, List.getElem?_eq_getElem hj] at h
  simp [List.getD, List.getElem?_eq_getElem hj, h]
theorem Mt.cs_one (l : List UInt8) : ∀ u ∈ Mt.cs l, u.oneCell' = true := by
  intro u hu
  simp only [Mt.cs, List.mem_map] at hu
  obtain ⟨x, _, rfl⟩ := hu
  rfl


section
variable {P : Program}
theorem run_loadVar_cells (w : World) (ty : TypeId) (a : Addr) (cs : Array Value) (d : TypeDesc) (hc : ∀ (j : Nat) (v : Value), cs.toList[j]? = some v → w.cell? (a.add j) = some v)
    (hu : P.underlying ty = some d) (hd : (match d with | .struct _ | .array _ _ => true | _ => false) = true) (hi : (P.info? ty).map (·.size) = some cs.size) :
    (loadVar ty a).run P w = .ok (.agg cs) w := by
  have hl : (loadCells a cs.toList.length).run P w = .ok cs.toList.toArray w := run_loadCells_list (P := P) w a cs.toList hc
  cases hq : P.info? ty with
  | none => simp [hq] at hi
  | some i =>
    have hs : i.size = cs.size := by simpa [hq] using hi
    have hagg : (isAgg ty).run P w = .ok true w := by
      unfold isAgg
      rw [Sem.run_bind, run_underlying hu w]
      cases d <;> simp_all
    simp only [Array.length_toList, Array.toArray_toList] at hl
    simp [loadVar, Sem.run_bind, hagg, sizeOf, typeInfo, hq, hs, hl]
theorem wpList_load_run {ops : Array Oper} {rest : List Oper} {o : Oper} {a : Act} {w : World} {Q : Exit → Act → World → Prop} (hgd : o.guard = none) (ty : TypeId) (x : Operand) (ho : o.op = .load ty x)
    (p : Addr) (v : Value) (hx : a.eval x = .pointer (some p)) (hr : (loadVar ty p).run P w = .ok v w)
    (h : wpList P ops Q rest (a.put o.dst v) w) : wpList P ops Q (o :: rest) a w :=
  wpList_plain hgd fun _ hK => by
    unfold Oper.wp execOp
    simp only [ho, hx, Instr.loadAt, Instr.sureAddr, Sem.run_bind, Sem.run_pure, Result.andThen_ok, hr]
    exact hK _ _ h
theorem wpList_build_run {ops : Array Oper} {rest : List Oper} {o : Oper} {a : Act} {w : World} {Q : Exit → Act → World → Prop} (hgd : o.guard = none) (t : TypeId) (parts : Array (Nat × Operand)) (ho : o.op = .build t parts)
    (v : Value) (ps : Array (Nat × Value)) (hp : parts.map (fun (i, x) => (i, a.eval x)) = ps) (hr : (Instr.build t ps).run P w = .ok v w)
    (h : wpList P ops Q rest (a.put o.dst v) w) : wpList P ops Q (o :: rest) a w :=
  wpList_plain hgd fun _ hK => by
    subst hp
    unfold Oper.wp execOp
    simp only [ho, Sem.run_bind, Result.andThen_ok, hr]
    exact hK _ _ h
end

theorem add_off (b off j : Nat) : (⟨b, off, none⟩ : Addr).add j = ⟨b, off + j, none⟩ := by unfold Addr.add; split <;> simp_all

section
variable {P : Program}
theorem run_copy_str (w : World) (dT sT ty elem : TypeId) (g o dLen dCap n : Nat) (s : ByteArray) (cur : Array Value) (t : TypeId)
    (hu : P.underlying dT = some (.slice elem)) (hs : (P.info? elem).map (·.size) = some 1) (hg : w.heap[g]? = some (.cells cur t (0, 0))) (hn : Nat.min s.size dLen = n) (hfit : o + n ≤ cur.size) :
    (Builtin.copy_ #[dT, sT] ty #[.slice (some ⟨g, o, none⟩) dLen dCap, .string s]).run P w =
      .ok (goInt n) (w.setRow g (cur.toList.take o ++ Mt.cs (s.data.toList.take n) ++ cur.toList.drop (o + n)).toArray) := by
  have hns : n ≤ s.data.toList.length := by
    have : s.data.toList.length = s.size := rfl
    rw [this, ← hn]; exact Nat.min_le_left _ _
  have hlen : (Mt.cs (s.data.toList.take n)).length = n := by rw [Mt.cs_length, List.length_take]; omega
  have hst := run_storeCells_at P g o t (Mt.cs (s.data.toList.take n)) 0 cur w hg (by rw [hlen]; simpa using hfit) (Mt.cs_one _)
  have htk : List.take n (List.map (fun b : UInt8 => Value.int IntKind.u8 (b.toNat : Int)) s.data.toList) = Mt.cs (s.data.toList.take n) := by
    simp [Mt.cs, List.map_take]
  rw [hlen] at hst
  simp only [Nat.add_zero] at hst
  cases hq : P.info? elem with
  | none => simp [hq] at hs
  | some i =>
    simp [Builtin.copy_, run_underlying hu, Builtin.lenOf, Builtin.firstCells, sizeOf, typeInfo, hq, hn]
    rw [htk, hst]
    simp [Result.andThen]
theorem wpList_copy_run (w : World) {ops : Array Oper} {rest : List Oper} {o : Oper} {a : Act} {Q : Exit → Act → World → Prop} (hgd : o.guard = none) (d s : Operand) (t t' : TypeId)
    (ho : o.op = .call { callee := .builtin .copy, args := #[d, s], argTypes := #[t, t'] }) (v u : Value) (hd : a.eval d = v) (hs : a.eval s = u) {v' : Value} {w' : World}
    (hr : ∀ ty, (Builtin.copy_ #[t, t'] ty #[v, u]).run P w = .ok v' w') (h : wpList P ops Q rest (a.put o.dst v') w') : wpList P ops Q (o :: rest) a w :=
  wpList_plain hgd fun _ hK => by
    unfold Oper.wp execOp
    simp only [ho, resolve, invoke, builtin, Sem.run_bind, Sem.run_pure, Result.andThen_ok, List.map_toArray, List.map_cons, List.map_nil, hd, hs, hr]
    exact hK _ _ h
theorem op_load {ops : Array Oper} {o : Oper} {a : Act} {w : World} {K : Act → World → Prop} {Q : Exit → Act → World → Prop} {E : Prop} (hgd : o.guard = none) (ty : TypeId) (x : Operand) (ho : o.op = .load ty x) (p : Addr) (v : Value)
    (hx : a.eval x = .pointer (some p)) (hr : (loadVar ty p).run P w = .ok v w) (h : K (a.put o.dst v) w) :
    if Region.wanted o (yielded ops a.tmps) then o.wp P a w K Q else E := by
  have hw : Region.wanted o (yielded ops a.tmps) = true := by simp [Region.wanted, hgd]
  rw [if_pos hw]
  unfold Oper.wp execOp
  simp only [ho, hx, Instr.loadAt, Instr.sureAddr, Sem.run_bind, Sem.run_pure, Result.andThen_ok, hr]
  exact h
theorem wp_store_at {o : Oper} {a : Act} {w : World} {K : Act → World → Prop} {Q : Exit → Act → World → Prop} (ty : TypeId) (x y : Operand) (ho : o.op = .store ty x y)
    (g of : Nat) (cells : Array Value) (hx : a.eval x = .pointer (some ⟨g, of, none⟩)) (hy : a.eval y = .agg cells)
    (t : TypeId) (old : Array Value) (hg : w.heap[g]? = some (.cells old t (0, 0))) (hi : (P.info? ty).map (·.size) = some cells.size)
    (hold : of + cells.size ≤ old.size) (h1 : cells.all (·.oneCell') = true)
    (h : K (a.put o.dst undef) (w.setRow g (old.toList.take of ++ cells.toList ++ old.toList.drop (of + cells.size)).toArray)) : o.wp P a w K Q := by
  have hst := run_storeCells_at P g of t cells.toList 0 old w hg (by simpa using hold) (fun v hv => (Array.all_eq_true_iff_forall_mem.1 h1) v (by simpa using hv))
  simp only [Nat.add_zero, Array.length_toList] at hst
  have hrun : (storeVar ty ⟨g, of, none⟩ (.agg cells)).run P w = .ok () (w.setRow g (old.toList.take of ++ cells.toList ++ old.toList.drop (of + cells.size)).toArray) := by
    cases hq : P.info? ty with
    | none => simp [hq] at hi
    | some i =>
      have hs : cells.size = i.size := by simp [hq] at hi; omega
      rw [hs] at hst
      simp [storeVar, sizeOf, typeInfo, hq, Value.cells, hs, hst]
  unfold Oper.wp execOp
  simp only [ho, hx, hy, Instr.storeAt, Instr.sureAddr, Sem.run_bind, Sem.run_pure, Result.andThen_ok, hrun]
  exact h
theorem op_wanted {ops : Array Oper} {o : Oper} {a : Act} {E F : Prop} (hgd : o.guard = none) (h : E) : if Region.wanted o (yielded ops a.tmps) then E else F := by
  have hw : Region.wanted o (yielded ops a.tmps) = true := by simp [Region.wanted, hgd]
  rw [if_pos hw]; exact h
theorem wpList_store_at {ops : Array Oper} {rest : List Oper} {o : Oper} {a : Act} {w : World} {Q : Exit → Act → World → Prop} (hgd : o.guard = none) (ty : TypeId) (x y : Operand) (ho : o.op = .store ty x y)
    (g of : Nat) (cells : Array Value) (hx : a.eval x = .pointer (some ⟨g, of, none⟩)) (hy : a.eval y = .agg cells)
    (t : TypeId) (old : Array Value) (hg : w.heap[g]? = some (.cells old t (0, 0))) (hi : (P.info? ty).map (·.size) = some cells.size)
    (hold : of + cells.size ≤ old.size) (h1 : cells.all (·.oneCell') = true)
    (h : wpList P ops Q rest (a.put o.dst undef) (w.setRow g (old.toList.take of ++ cells.toList ++ old.toList.drop (of + cells.size)).toArray)) : wpList P ops Q (o :: rest) a w :=
  wpList_plain hgd fun _ hK => by
    have hst := run_storeCells_at P g of t cells.toList 0 old w hg (by simpa using hold) (fun v hv => (Array.all_eq_true_iff_forall_mem.1 h1) v (by simpa using hv))
    simp only [Nat.add_zero, Array.length_toList] at hst
    have hrun : (storeVar ty ⟨g, of, none⟩ (.agg cells)).run P w = .ok () (w.setRow g (old.toList.take of ++ cells.toList ++ old.toList.drop (of + cells.size)).toArray) := by
      cases hq : P.info? ty with
      | none => simp [hq] at hi
      | some i =>
        have hs : cells.size = i.size := by simp [hq] at hi; omega
        rw [hs] at hst
        simp [storeVar, sizeOf, typeInfo, hq, Value.cells, hs, hst]
    unfold Oper.wp execOp
    simp only [ho, hx, hy, Instr.storeAt, Instr.sureAddr, Sem.run_bind, Sem.run_pure, Result.andThen_ok, hrun]
    exact hK _ _ h
end

/-- Nothing but one block has turned, and new blocks may have come. -/
structure Only (B : Nat) (w w' : World) : Prop where
  os : w'.os = w.os
  tape : w'.tape = w.tape
  output : w'.output = w.output
  size : w.heap.size ≤ w'.heap.size
  block : ∀ k, k < w.heap.size → k ≠ B → w'.heap[k]? = w.heap[k]?
theorem Only.refl (B : Nat) (w : World) : Only B w w := ⟨rfl, rfl, rfl, Nat.le_refl _, fun _ _ _ => rfl⟩
theorem Only.trans {B : Nat} {a b c : World} (h1 : Only B a b) (h2 : Only B b c) : Only B a c :=
  ⟨h2.os.trans h1.os, h2.tape.trans h1.tape, h2.output.trans h1.output, Nat.le_trans h1.size h2.size, fun k hk hB => (h2.block k (Nat.lt_of_lt_of_le hk h1.size) hB).trans (h1.block k hk hB)⟩
theorem Below.only {B D : Nat} {w u : World} (h : Below D w u) (hD : w.heap.size ≤ D) : Only B w u := ⟨h.os, h.tape, h.output, h.size, fun k hk _ => h.block k (by omega)⟩
theorem Only.then {B : Nat} {a b c : World} (h1 : Only B a b) (h2 : Below b.heap.size b c) : Only B a c := h1.trans (Below.only h2 (Nat.le_refl _))
theorem Only.drew {B : Nat} {a b : World} (h : Only B a b) : Only B a b.drew := ⟨h.os, h.tape, h.output, h.size, h.block⟩
theorem Only.setRow {B : Nat} {a b : World} (h : Only B a b) (cs : Array Value) : Only B a (b.setRow B cs) :=
  ⟨h.os, h.tape, h.output, by rw [setRow_size]; exact h.size, fun k hk hB => by rw [setRow_other _ _ _ _ hB]; exact h.block k hk hB⟩
theorem Only.setCell {B i : Nat} {a b : World} (h : Only B a b) (v : Value) : Only B a (b.setCell ⟨B, i, none⟩ v) := by
  have hb : Below 0 b (b.setCell ⟨B, i, none⟩ v) := Below.setCell (Below.refl 0 b) (Nat.zero_le _) v
  refine ⟨?_, ?_, ?_, ?_, fun k hk hB => by rw [heap_setCell_other _ _ _ _ hB]; exact h.block k hk hB⟩
  · exact hb.os.trans h.os
  · exact hb.tape.trans h.tape
  · exact hb.output.trans h.output
  · exact Nat.le_trans h.size hb.size
theorem Only.toBelow {B D : Nat} {a b : World} (h : Only B a b) (hD : D ≤ B) (hs : D ≤ a.heap.size) : Below D a b := ⟨h.os, h.tape, h.output, h.size, fun k hk => h.block k (by omega) (by omega)⟩
theorem Only.cell {B : Nat} {a b : World} (h : Only B a b) {p : Addr} (hp : p.block < a.heap.size) (hB : p.block ≠ B) : b.cell? p = a.cell? p := by
  unfold World.cell?
  rw [h.block _ hp hB]


theorem Mt.extract_list (p : ByteArray) (n : Nat) : (p.extract n p.size).data.toList = p.data.toList.drop n := by
  have h : (p.extract n p.size).data = p.data.extract n p.size := by rw [ByteArray.data_extract]
  rw [h, Array.toList_extract]
  unfold List.extract
  exact List.take_of_length_le (by rw [List.length_drop]; exact Nat.le_refl _)


section
variable {P : Program} {ops : Array Oper}
theorem still_load5 {o : Oper} {a : Act} {w : World} {K : Act → Prop} (hgd : o.guard = none) (ty : TypeId) (x : Operand) (ho : o.op = .load ty x) (p : Addr) (v : Value)
    (hx : a.eval x = .pointer (some p)) (hr : (loadVar ty p).run P w = .ok v w) (h : K (a.put o.dst v)) :
    if Region.wanted o (yielded ops a.tmps) then o.still P a w K else K (a.put o.dst undef) := by
  have hw : Region.wanted o (yielded ops a.tmps) = true := by simp [Region.wanted, hgd]
  rw [if_pos hw]
  unfold Oper.still execOp
  simp only [ho, hx, Instr.loadAt, Instr.sureAddr, Sem.run_bind, Sem.run_pure, Result.andThen_ok, hr]
  exact ⟨rfl, h⟩
end

end Go.Proofs.YtnioagojiipjlaaGreat

/-
  What a call leaves as it was, where it turns some blocks alone.
-/
namespace Go.Proofs.YtnioagojiipjlaaGreat
open Go.RowKit

theorem Tryz.szU8 : (Tryz.prog.info? 5).map (·.size) = some 1 := by kernel_rfl
theorem Tryz.infoU8 : (Tryz.prog.info? 5).map (fun i => (i.zero, i.size, i.bytes)) = some (some (.int .u8 0), 1, 1) := by kernel_rfl

/-! ### what a call leaves as it was -/
/-- Nothing but these blocks has turned, and new blocks may have come. -/
structure OnlyS (S : List Nat) (w w' : World) : Prop where
  os : w'.os = w.os
  tape : w'.tape = w.tape
  output : w'.output = w.output
  size : w.heap.size ≤ w'.heap.size
  block : ∀ k, k < w.heap.size → k ∉ S → w'.heap[k]? = w.heap[k]?
theorem OnlyS.refl (S : List Nat) (w : World) : OnlyS S w w := ⟨rfl, rfl, rfl, Nat.le_refl _, fun _ _ _ => rfl⟩
theorem OnlyS.trans {S : List Nat} {a b c : World} (h1 : OnlyS S a b) (h2 : OnlyS S b c) : OnlyS S a c :=
  ⟨h2.os.trans h1.os, h2.tape.trans h1.tape, h2.output.trans h1.output, Nat.le_trans h1.size h2.size, fun k hk hS => (h2.block k (Nat.lt_of_lt_of_le hk h1.size) hS).trans (h1.block k hk hS)⟩
theorem OnlyS.mono {S T : List Nat} {a b : World} (h : OnlyS S a b) (hT : ∀ k ∈ S, k ∈ T) : OnlyS T a b := ⟨h.os, h.tape, h.output, h.size, fun k hk hS => h.block k hk fun hk2 => hS (hT k hk2)⟩
theorem Below.onlyS {S : List Nat} {D : Nat} {w u : World} (h : Below D w u) (hD : w.heap.size ≤ D) : OnlyS S w u := ⟨h.os, h.tape, h.output, h.size, fun k hk _ => h.block k (by omega)⟩
theorem OnlyS.then {S : List Nat} {a b c : World} (h1 : OnlyS S a b) (h2 : Below b.heap.size b c) : OnlyS S a c := h1.trans (Below.onlyS h2 (Nat.le_refl _))
theorem OnlyS.drew {S : List Nat} {a b : World} (h : OnlyS S a b) : OnlyS S a b.drew := ⟨h.os, h.tape, h.output, h.size, h.block⟩
theorem OnlyS.drewN {S : List Nat} {a b : World} (n : Nat) (h : OnlyS S a b) : OnlyS S a (b.drewN n) := ⟨h.os, h.tape, h.output, h.size, h.block⟩
theorem OnlyS.alloc {S : List Nat} {a b : World} (h : OnlyS S a b) (o : Obj) : OnlyS S a (b.alloc o) := h.then ((Below.refl _ _).alloc (Nat.le_refl _) o)
theorem OnlyS.setRow {S : List Nat} {a b : World} (h : OnlyS S a b) {g : Nat} (hg : g ∈ S) (cs : Array Value) : OnlyS S a (b.setRow g cs) :=
  ⟨h.os, h.tape, h.output, by rw [setRow_size]; exact h.size, fun k hk hS => by rw [setRow_other _ _ _ _ (fun e => hS (by rw [e]; exact hg))]; exact h.block k hk hS⟩
theorem OnlyS.setCell {S : List Nat} {a b : World} (h : OnlyS S a b) {g i : Nat} (hg : g ∈ S) (v : Value) : OnlyS S a (b.setCell ⟨g, i, none⟩ v) := by
  have hb : Below 0 b (b.setCell ⟨g, i, none⟩ v) := Below.setCell (Below.refl 0 b) (Nat.zero_le _) v
  exact ⟨hb.os.trans h.os, hb.tape.trans h.tape, hb.output.trans h.output, Nat.le_trans h.size hb.size, fun k hk hS => by rw [heap_setCell_other _ _ _ _ (fun e => hS (by rw [e]; exact hg))]; exact h.block k hk hS⟩
theorem OnlyS.grown {S : List Nat} {a b c : World} (h : OnlyS S a b) {g : Nat} (hg : g ∈ S) (h2 : b.grownBy c (some g)) : OnlyS S a c :=
  h.trans ⟨h2.os, h2.tape, h2.output, h2.size, fun k hk hS => h2.block k hk (fun e => hS (by cases e; exact hg))⟩
theorem OnlyS.grown0 {S : List Nat} {a b c : World} (h : OnlyS S a b) (h2 : b.grownBy c none) : OnlyS S a c :=
  h.trans ⟨h2.os, h2.tape, h2.output, h2.size, fun k hk _ => h2.block k hk (fun e => by cases e)⟩
theorem OnlyS.toBelow {S : List Nat} {D : Nat} {a b : World} (h : OnlyS S a b) (hS : ∀ k ∈ S, D ≤ k) (hs : D ≤ a.heap.size) : Below D a b := ⟨h.os, h.tape, h.output, h.size, fun k hk => h.block k (by omega) (fun hm => by have := hS k hm; omega)⟩
theorem OnlyS.cell {S : List Nat} {a b : World} (h : OnlyS S a b) {p : Addr} (hp : p.block < a.heap.size) (hS : p.block ∉ S) : b.cell? p = a.cell? p := by
  unfold World.cell?
  rw [h.block _ hp hS]
theorem lt_of_block {w : World} {b : Nat} {o : Obj} (h : w.heap[b]? = some o) : b < w.heap.size := by
  rcases Nat.lt_or_ge b w.heap.size with h2 | h2
  · exact h2
  · rw [Array.getElem?_eq_none h2] at h; cases h

end Go.Proofs.YtnioagojiipjlaaGreat

/-
  What the journal's small calls on sectors come to: cells, Need, marked, number.
-/
namespace Go.Proofs.YtnioagojiipjlaaGreat
open Go.RowKit

set_option maxRecDepth 100000 in
theorem cells_any (n : Nat) (w : World) (hn : n ≤ 140737488355328) : Calls Tryz.prog 55 #[.int .i64 n] w fun e w' => e = .returned (.int .i64 (Mt.cellsN n : Int)) ∧ w = w' := by
  have HR := Lib.hid (show (Mt.cellsN n : Int) = ((max 1 ((n + 109) / 110) : Nat) : Int) from rfl)
  generalize (Mt.cellsN n : Int) = r at HR ⊢
  go_enter Tryz.func55, Tryz.ntmps55
  go_wp2
  all_goals
    go_ret
    exact ⟨Mt.ret_int (by rw [HR.out]; omega), rfl⟩
set_option maxRecDepth 100000 in
theorem need_no (n : Int) (w : World) (h : n < 0 ∨ 262144 < n) : Calls Tryz.prog 35 #[.int .i64 n] w fun e w' => e = .returned (.int .i64 0) ∧ w = w' := by
  rcases h with h | h
  · go_enter Tryz.func35, Tryz.ntmps35
    go_wp2_with fail
    go_ret
    exact ⟨rfl, rfl⟩
  · have hd : decide (n < 0) = false := decide_eq_false (by omega)
    go_enter Tryz.func35, Tryz.ntmps35
    go_wp2_with fail
    go_ret
    exact ⟨rfl, rfl⟩
set_option maxRecDepth 100000 in
theorem need_yes (n : Nat) (w : World) (h : n ≤ 262144) : Calls Tryz.prog 35 #[.int .i64 n] w fun e w' => e = .returned (.int .i64 (Mt.cellsN n : Int)) ∧ w = w' := by
  have HC := Lib.hid (cells_any n w (by omega))
  have hd : decide ((n : Int) < 0) = false := decide_eq_false (by omega)
  have hd2 : decide ((262144 : Int) < n) = false := decide_eq_false (by omega)
  go_enter Tryz.func35, Tryz.ntmps35
  go_wp2_with fail
  refine (HC.out).mono ?_
  rintro e w' ⟨rfl, rfl⟩
  go_wp2_with fail
  go_ret
  exact ⟨rfl, rfl⟩
theorem number_any (s : ByteArray) (a size : Nat) (w : World) (hs : s.size ≤ 281474976710700) (h1 : 1 ≤ size) (h2 : size ≤ 8) (h : a + size ≤ s.size) :
    Calls Tryz.prog 83 #[.string s, .int .i64 a, .int .i64 size] w fun e w' => e = .returned (.int .u64 (Mt.gn s.data.toList a size : Int)) ∧ w = w' := by
  have HC := Lib.hid (get_yes s a size w hs h1 h2 h)
  clear hs h1 h2 h
  go_enter Tryz.func83, Tryz.ntmps83
  go_wp2_with fail
  refine (HC.out).mono ?_
  rintro e w' ⟨rfl, rfl⟩
  go_wp2_with fail
  go_ret
  exact ⟨rfl, rfl⟩
set_option maxRecDepth 100000 in
theorem marked_short (s : ByteArray) (m : UInt8) (w : World) (h : s.size ≠ 128) : Calls Tryz.prog 82 #[.string s, .string ⟨#[m]⟩] w fun e w' => e = .returned (.bool false) ∧ w = w' := by
  have hd : ((s.size : Int) == 128) = false := by simp; omega
  go_enter Tryz.func82, Tryz.ntmps82
  go_wp2_with fail
  go_ret
  exact ⟨rfl, rfl⟩
theorem Mt.mark_eq (s : ByteArray) (m : UInt8) (h : s.size = 128) : (s.extract 4 5).data.toList = [s.data.toList.getD 4 0] := by
  have hl : s.data.toList.length = 128 := h
  rw [ByteArray.data_extract, Array.toList_extract]
  unfold List.extract
  have e : s.data.toList.drop 4 = s.data.toList.getD 4 0 :: s.data.toList.drop 5 := by
    rw [List.drop_eq_getElem_cons (by omega)]
    simp [List.getD, List.getElem?_eq_getElem (show 4 < s.data.toList.length by omega)]
  rw [e]; rfl
set_option maxRecDepth 100000 in
theorem marked_any (s : ByteArray) (m : UInt8) (w : World) (h : s.size = 128) : Calls Tryz.prog 82 #[.string s, .string ⟨#[m]⟩] w fun e w' => e = .returned (.bool (decide (s.data.toList.getD 4 0 = m))) ∧ w = w' := by
  have hd : ((s.size : Int) == 128) = true := by simp; omega
  have h0 : (4 : Int) ≤ 5 := by omega
  have h1 : (5 : Int) ≤ (s.size : Int) := by omega
  have HM := Lib.hid (Mt.mark_eq s m h)
  clear h
  go_enter Tryz.func82, Tryz.ntmps82
  go_wp2_with fail
  go_ret
  refine ⟨Mt.ret_bool ?_, rfl⟩
  rw [Bool.eq_iff_iff]
  simp only [beq_iff_eq, decide_eq_true_eq, ByteArray.toList_eq]
  rw [HM.out]
  simp
end Go.Proofs.YtnioagojiipjlaaGreat

/-
  What the journal's calls on cells come to: sound.
-/
namespace Go.Proofs.YtnioagojiipjlaaGreat
open Go.RowKit

/-- A cell as a value. -/
def clV (c : Mt.Cl) : Array Value := #[.int .u64 (c.gen : Int), .int .u64 (c.number : Int), .int .i64 (c.part : Int), .int .i64 (c.parts : Int), .string (Mt.str c.body)]
theorem box5_of {w : World} {b : Nat} {x y z u v : Value} {T : TypeId} {fr : Nat × Nat} (h : w.heap[b]? = some (.cells #[x, y, z, u, v] T fr)) : w.cell? ⟨b, 0, none⟩ = some x ∧ w.cell? ⟨b, 1, none⟩ = some y ∧ w.cell? ⟨b, 2, none⟩ = some z ∧ w.cell? ⟨b, 3, none⟩ = some u ∧ w.cell? ⟨b, 4, none⟩ = some v := by
  simp [World.cell?, h]
theorem alloc5 (w : World) (x y z u v : Value) (T : TypeId) : ∀ u', Below (w.alloc (.cells #[x, y, z, u, v] T)).heap.size (w.alloc (.cells #[x, y, z, u, v] T)) u' → u'.heap[w.heap.size]? = some (.cells #[x, y, z, u, v] T (0, 0)) :=
  fun u' hb => (hb.block _ (by simp)).trans (heap_alloc_new w _)

set_option maxRecDepth 100000 in
theorem sound_any (c : Mt.Cl) (hf : c.Fits) (w : World) : Calls Tryz.prog 85 #[.agg (clV c)] w fun e w' => e = .returned (.bool c.sound) ∧ Below w.heap.size w w' := by
  obtain ⟨g, n, p, q, b⟩ := c
  obtain ⟨h1, h2, h3, h4, h5⟩ := hf
  simp only at h1 h2 h3 h4 h5
  have HR := Lib.hid (show (Mt.Cl.mk g n p q b).sound = (if g = 0 ∨ q ≤ p then false else if p + 1 < q then decide (b.length = 110) else (decide (0 < b.length) || decide (q = 1))) from rfl)
  have HB := Lib.hid ((Below.refl w.heap.size w).alloc (Nat.le_refl _) (.cells #[.int .u64 (g : Int), .int .u64 (n : Int), .int .i64 (p : Int), .int .i64 (q : Int), .string (Mt.str b)] 106))
  obtain ⟨c0, c1, c2, c3, c4⟩ := box5_of (heap_alloc_new w (.cells #[.int .u64 (g : Int), .int .u64 (n : Int), .int .i64 (p : Int), .int .i64 (q : Int), .string (Mt.str b)] 106))
  have HS := Lib.hid (Mt.str_size b)
  generalize (Mt.Cl.mk g n p q b).sound = r at HR ⊢
  unfold clV
  simp only
  generalize Mt.str b = S at *
  by_cases hg : g = 0
  · have hd : ((g : Int) == 0) = true := by simp [hg]
    have HG := Lib.hid hg
    clear hg
    go_enter Tryz.func85, Tryz.ntmps85
    go_wp2_with fail
    go_ret
    exact ⟨Mt.ret_bool (by rw [HR.out, if_pos (.inl HG.out)]), HB.out⟩
  · have hd : ((g : Int) == 0) = false := by simp; omega
    by_cases hp : q ≤ p
    · have hd2 : decide (q ≤ p) = true := decide_eq_true hp
      have hd3 : decide ((q : Int) ≤ (p : Int)) = true := decide_eq_true (by omega)
      have HG := Lib.hid hp
      clear hp hg
      go_enter Tryz.func85, Tryz.ntmps85
      go_wp2_with fail
      go_ret
      exact ⟨Mt.ret_bool (by rw [HR.out, if_pos (.inr HG.out)]), HB.out⟩
    · have hd2 : decide (q ≤ p) = false := decide_eq_false hp
      have hd3 : decide ((q : Int) ≤ (p : Int)) = false := decide_eq_false (by omega)
      have hq1 : 1 ≤ q := by omega
      by_cases hl : p + 1 < q
      · have hd4 : decide ((p : Int) < (q : Int) - 1) = true := decide_eq_true (by omega)
        have HG := Lib.hid hp
        have HQ := Lib.hid hg
        have HL := Lib.hid hl
        clear hp hg hl
        go_enter Tryz.func85, Tryz.ntmps85
        go_wp2_with fail
        go_ret
        exact ⟨Mt.ret_bool (by rw [HR.out, if_neg (by have := HG.out; have := HQ.out; omega), if_pos HL.out, ← HS.out]; rw [Bool.eq_iff_iff]; simp; omega), HB.out⟩
      · have hd4 : decide ((p : Int) < (q : Int) - 1) = false := decide_eq_false (by omega)
        have HG := Lib.hid hp
        have HQ := Lib.hid hg
        have HL := Lib.hid hl
        clear hp hg hl
        have HX := Lib.hid (show (if g = 0 ∨ q ≤ p then false else if p + 1 < q then decide (b.length = 110) else (decide (0 < b.length) || decide (q = 1))) = (decide (0 < b.length) || decide (q = 1)) by rw [if_neg (by have := HG.out; have := HQ.out; omega), if_neg HL.out])
        by_cases h0 : 0 < S.size
        · have hd5 : decide (0 < S.size) = true := decide_eq_true h0
          have HS0 := Lib.hid h0
          clear h0
          go_enter Tryz.func85, Tryz.ntmps85
          go_wp2_with fail
          go_ret
          exact ⟨Mt.ret_bool (by rw [HR.out, HX.out, ← HS.out]; have := HS0.out; simp; omega), HB.out⟩
        · have hd5 : decide (0 < S.size) = false := decide_eq_false h0
          have HS0 := Lib.hid h0
          clear h0
          go_enter Tryz.func85, Tryz.ntmps85
          go_wp2_with fail
          go_ret
          exact ⟨Mt.ret_bool (by rw [HR.out, HX.out, ← HS.out]; have := HS0.out; rw [Bool.eq_iff_iff]; simp; omega), HB.out⟩
end Go.Proofs.YtnioagojiipjlaaGreat

/-
  The contract of strings.Repeat at this translation: numbers and rows of the table, in plain words.
-/
namespace Go.Proofs
open Go.Shelf
def Tryz.repA_ren : Go.Shelf.Ren := ⟨fun | 105 => 102 | 212 => 117 | 99 => 118 | 165 => 119 | 166 => 96 | 170 => 120 | 169 => 97 | 263 => 129 | 264 => 130 | 206 => 131 | 240 => 105 | 241 => 132 | 276 => 122 | 277 => 135 | n => n, fun | 9 => 9 | 3 => 3 | 4 => 4 | 20 => 20 | 0 => 0 | 46 => 121 | 109 => 158 | 5 => 5 | 72 => 136 | 76 => 139 | 51 => 130 | 146 => 169 | 53 => 40 | 148 => 171 | 70 => 134 | 37 => 73 | 75 => 138 | 127 => 146 | 164 => 161 | 80 => 38 | n => n, fun | n => n⟩
theorem Tryz.repA : Go.Proofs.Lays.n105 Tryz.prog Tryz.repA_ren := {
  mixed := by kernel_rfl
  f99 := Tryz.func118.trans (congrArg some (by kernel_rfl))
  f105 := Tryz.func102.trans (congrArg some (by kernel_rfl))
  f165 := Tryz.func119.trans (congrArg some (by kernel_rfl))
  f166 := Tryz.func96.trans (congrArg some (by kernel_rfl))
  f169 := Tryz.func97.trans (congrArg some (by kernel_rfl))
  f170 := Tryz.func120.trans (congrArg some (by kernel_rfl))
  f206 := Tryz.func131.trans (congrArg some (by kernel_rfl))
  f212 := Tryz.func117.trans (congrArg some (by kernel_rfl))
  f240 := Tryz.func105.trans (congrArg some (by kernel_rfl))
  f241 := Tryz.func132.trans (congrArg some (by kernel_rfl))
  f263 := Tryz.func129.trans (congrArg some (by kernel_rfl))
  f264 := Tryz.func130.trans (congrArg some (by kernel_rfl))
  f276 := Tryz.func122.trans (congrArg some (by kernel_rfl))
  f277 := Tryz.func135.trans (congrArg some (by kernel_rfl))
  t0 := Tryz.underlying0
  a0 := Tryz.isAgg0
  z0 := Tryz.sizeOf0
  v0 := Tryz.zeroValue0
  t3 := Tryz.underlying3
  a3 := Tryz.isAgg3
  z3 := Tryz.sizeOf3
  v3 := Tryz.zeroValue3
  t4 := Tryz.underlying4
  a4 := Tryz.isAgg4
  z4 := Tryz.sizeOf4
  v4 := Tryz.zeroValue4
  t5 := Tryz.underlying5
  a5 := Tryz.isAgg5
  z5 := Tryz.sizeOf5
  v5 := Tryz.zeroValue5
  t9 := Tryz.underlying9
  a9 := Tryz.isAgg9
  z9 := Tryz.sizeOf9
  v9 := Tryz.zeroValue9
  t20 := Tryz.underlying20
  a20 := Tryz.isAgg20
  z20 := Tryz.sizeOf20
  v20 := Tryz.zeroValue20
  t37 := Tryz.underlying73
  a37 := Tryz.isAgg73
  z37 := Tryz.sizeOf73
  v37 := Tryz.zeroValue73
  t46 := Tryz.underlying121
  a46 := Tryz.isAgg121
  z46 := Tryz.sizeOf121
  v46 := Tryz.zeroValue121
  t51 := Tryz.underlying130
  a51 := Tryz.isAgg130
  z51 := Tryz.sizeOf130
  v51 := Tryz.zeroValue130
  t53 := Tryz.underlying40
  a53 := Tryz.isAgg40
  z53 := Tryz.sizeOf40
  v53 := Tryz.zeroValue40
  t70 := Tryz.underlying134
  a70 := Tryz.isAgg134
  z70 := Tryz.sizeOf134
  v70 := Tryz.zeroValue134
  t72 := Tryz.underlying136
  a72 := Tryz.isAgg136
  z72 := Tryz.sizeOf136
  v72 := Tryz.zeroValue136
  t75 := Tryz.underlying138
  a75 := Tryz.isAgg138
  z75 := Tryz.sizeOf138
  v75 := Tryz.zeroValue138
  t76 := Tryz.underlying139
  a76 := Tryz.isAgg139
  z76 := Tryz.sizeOf139
  v76 := Tryz.zeroValue139
  t109 := Tryz.underlying158
  a109 := Tryz.isAgg158
  z109 := Tryz.sizeOf158
  v109 := Tryz.zeroValue158
  t127 := Tryz.underlying146
  a127 := Tryz.isAgg146
  z127 := Tryz.sizeOf146
  v127 := Tryz.zeroValue146
  t146 := Tryz.underlying169
  a146 := Tryz.isAgg169
  z146 := Tryz.sizeOf169
  v146 := Tryz.zeroValue169
  t148 := Tryz.underlying171
  a148 := Tryz.isAgg171
  z148 := Tryz.sizeOf171
  v148 := Tryz.zeroValue171
  t164 := Tryz.underlying161
  a164 := Tryz.isAgg161
  z164 := Tryz.sizeOf161
  v164 := Tryz.zeroValue161 }
end Go.Proofs
