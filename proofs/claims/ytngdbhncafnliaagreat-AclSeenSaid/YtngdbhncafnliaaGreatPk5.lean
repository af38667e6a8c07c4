/-
  Some texts of one proof, one behind the other.
-/
import Derived.Test.YtngdbhncafnliaaGreatProg
import Derived.WalkKit
import Derived.Lib.Hide
import Derived.Laws.CopyRow
import Derived.Laws.CopyOwn
import Derived.Laws.Rows
import Derived.Laws.AppendOwn
import Derived.ArgAppend
import Derived.StillTailTactics
import Derived.Deep.QuietTactic
import Derived.BigQuiet
import Derived.Deep.AppendSrc
import Derived.Deep.Upon
import Derived.Test.YtngdbhncafnliaaGreatPk0
set_option linter.unusedVariables false
set_option linter.unusedSimpArgs false

/-
  Rules of the walk and plain facts that name no function: loads and stores of rows, copies, what a call leaves as it was.
-/
namespace Go.Proofs.YtngdbhncafnliaaGreat
open Go.RowKit
theorem own_mono {w : World} {b0 b1 : Nat} {e : TypeId} {size : Nat} {v : Value} {n : Nat} {xs : List Value} (h : w.ownsRow b1 e size v n xs) (hb : b0 ≤ b1) : w.ownsRow b0 e size v n xs := by
  obtain ⟨h1, h2⟩ := h
  refine ⟨h1, ?_⟩
  rcases h2 with h2 | ⟨g, cap, cur, e1, e2, e3⟩
  · exact .inl h2
  · exact .inr ⟨g, cap, cur, e1, by omega, e3⟩
theorem own_form {w : World} {b : Nat} {e : TypeId} {size : Nat} {v : Value} {n : Nat} {xs : List Value} (h : w.ownsRow b e size v n xs) (hn : 0 < n) : ∃ g cap, v = .slice (some ⟨g, 0, none⟩) n cap := by
  rcases h.2 with ⟨_, h2⟩ | ⟨g, cap, cur, e1, _⟩
  · omega
  · exact ⟨g, cap, e1⟩
theorem Mt.cs_getD (l : List UInt8) (j : Nat) (u : Value) (h : (Mt.cs l)[j]? = some u) : j < l.length ∧ u = .int .u8 ((l.getD j 0).toNat : Int) := by
  have hj : j < l.length := by
    rcases Nat.lt_or_ge j l.length with h2 | h2
    · exact h2
    · rw [List.getElem?_eq_none (by rw [Mt.cs_length]; exact h2)] at h; cases h
  refine ⟨hj, ?_⟩
  simp [Mt.cs, List.getElem?_eq_getElem hj] at h
  simp [List.getD, List.getElem?_eq_getElem hj, h]
theorem Mt.cs_one (l : List UInt8) : ∀ u ∈ Mt.cs l, u.oneCell' = true := by
  intro u hu
  simp only [Mt.cs, List.mem_map] at hu
  obtain ⟨x, _, rfl⟩ := hu
  rfl


section
variable {P : Program}
theorem run_loadVar_cells (w : World) (ty : TypeId) (a : Addr) (cs : Array Value) (d : TypeDesc) (hc : ∀ (j : Nat) (v : Value), cs.toList[j]? = some v → w.cell? (a.add j) = some v)
    (hu : P.underlying ty = some d) (hd : (match d with | .struct _ | .array _ _ => true | _ => false) = true) (hi : (P.info? ty).map (·.size) = some cs.size) :
    (loadVar ty a).run P w = .ok (.agg cs) w := by
  have hl : (loadCells a cs.toList.length).run P w = .ok cs.toList.toArray w := run_loadCells_list (P := P) w a cs.toList hc
  cases hq : P.info? ty with
  | none => simp [hq] at hi
  | some i =>
    have hs : i.size = cs.size := by simpa [hq] using hi
    have hagg : (isAgg ty).run P w = .ok true w := by
      unfold isAgg
      rw [Sem.run_bind, run_underlying hu w]
      cases d <;> simp_all
    simp only [Array.length_toList, Array.toArray_toList] at hl
    simp [loadVar, Sem.run_bind, hagg, sizeOf, typeInfo, hq, hs, hl]
theorem wpList_load_run {ops : Array Oper} {rest : List Oper} {o : Oper} {a : Act} {w : World} {Q : Exit → Act → World → Prop} (hgd : o.guard = none) (ty : TypeId) (x : Operand) (ho : o.op = .load ty x)
    (p : Addr) (v : Value) (hx : a.eval x = .pointer (some p)) (hr : (loadVar ty p).run P w = .ok v w)
    (h : wpList P ops Q rest (a.put o.dst v) w) : wpList P ops Q (o :: rest) a w :=
  wpList_plain hgd fun _ hK => by
    unfold Oper.wp execOp
    simp only [ho, hx, Instr.loadAt, Instr.sureAddr, Sem.run_bind, Sem.run_pure, Result.andThen_ok, hr]
    exact hK _ _ h
theorem wpList_build_run {ops : Array Oper} {rest : List Oper} {o : Oper} {a : Act} {w : World} {Q : Exit → Act → World → Prop} (hgd : o.guard = none) (t : TypeId) (parts : Array (Nat × Operand)) (ho : o.op = .build t parts)
    (v : Value) (ps : Array (Nat × Value)) (hp : parts.map (fun (i, x) => (i, a.eval x)) = ps) (hr : (Instr.build t ps).run P w = .ok v w)
    (h : wpList P ops Q rest (a.put o.dst v) w) : wpList P ops Q (o :: rest) a w :=
  wpList_plain hgd fun _ hK => by
    subst hp
    unfold Oper.wp execOp
    simp only [ho, Sem.run_bind, Result.andThen_ok, hr]
    exact hK _ _ h
end

theorem add_off (b off j : Nat) : (⟨b, off, none⟩ : Addr).add j = ⟨b, off + j, none⟩ := by unfold Addr.add; split <;> simp_all

section
variable {P : Program}
theorem run_copy_str (w : World) (dT sT ty elem : TypeId) (g o dLen dCap n : Nat) (s : ByteArray) (cur : Array Value) (t : TypeId)
    (hu : P.underlying dT = some (.slice elem)) (hs : (P.info? elem).map (·.size) = some 1) (hg : w.heap[g]? = some (.cells cur t (0, 0))) (hn : Nat.min s.size dLen = n) (hfit : o + n ≤ cur.size) :
    (Builtin.copy_ #[dT, sT] ty #[.slice (some ⟨g, o, none⟩) dLen dCap, .string s]).run P w =
      .ok (goInt n) (w.setRow g (cur.toList.take o ++ Mt.cs (s.data.toList.take n) ++ cur.toList.drop (o + n)).toArray) := by
  have hns : n ≤ s.data.toList.length := by
    have : s.data.toList.length = s.size := rfl
    rw [this, ← hn]; exact Nat.min_le_left _ _
  have hlen : (Mt.cs (s.data.toList.take n)).length = n := by rw [Mt.cs_length, List.length_take]; omega
  have hst := run_storeCells_at P g o t (Mt.cs (s.data.toList.take n)) 0 cur w hg (by rw [hlen]; simpa using hfit) (Mt.cs_one _)
  have htk : List.take n (List.map (fun b : UInt8 => Value.int IntKind.u8 (b.toNat : Int)) s.data.toList) = Mt.cs (s.data.toList.take n) := by
    simp [Mt.cs, List.map_take]
  rw [hlen] at hst
  simp only [Nat.add_zero] at hst
  cases hq : P.info? elem with
  | none => simp [hq] at hs
  | some i =>
    simp [Builtin.copy_, run_underlying hu, Builtin.lenOf, Builtin.firstCells, sizeOf, typeInfo, hq, hn]
    rw [htk, hst]
    simp [Result.andThen]
theorem wpList_copy_run (w : World) {ops : Array Oper} {rest : List Oper} {o : Oper} {a : Act} {Q : Exit → Act → World → Prop} (hgd : o.guard = none) (d s : Operand) (t t' : TypeId)
    (ho : o.op = .call { callee := .builtin .copy, args := #[d, s], argTypes := #[t, t'] }) (v u : Value) (hd : a.eval d = v) (hs : a.eval s = u) {v' : Value} {w' : World}
    (hr : ∀ ty, (Builtin.copy_ #[t, t'] ty #[v, u]).run P w = .ok v' w') (h : wpList P ops Q rest (a.put o.dst v') w') : wpList P ops Q (o :: rest) a w :=
  wpList_plain hgd fun _ hK => by
    unfold Oper.wp execOp
    simp only [ho, resolve, invoke, builtin, Sem.run_bind, Sem.run_pure, Result.andThen_ok, List.map_toArray, List.map_cons, List.map_nil, hd, hs, hr]
    exact hK _ _ h
theorem op_load {ops : Array Oper} {o : Oper} {a : Act} {w : World} {K : Act → World → Prop} {Q : Exit → Act → World → Prop} {E : Prop} (hgd : o.guard = none) (ty : TypeId) (x : Operand) (ho : o.op = .load ty x) (p : Addr) (v : Value)
    (hx : a.eval x = .pointer (some p)) (hr : (loadVar ty p).run P w = .ok v w) (h : K (a.put o.dst v) w) :
    if Region.wanted o (yielded ops a.tmps) then o.wp P a w K Q else E := by
  have hw : Region.wanted o (yielded ops a.tmps) = true := by simp [Region.wanted, hgd]
  rw [if_pos hw]
  unfold Oper.wp execOp
  simp only [ho, hx, Instr.loadAt, Instr.sureAddr, Sem.run_bind, Sem.run_pure, Result.andThen_ok, hr]
  exact h
theorem wp_store_at {o : Oper} {a : Act} {w : World} {K : Act → World → Prop} {Q : Exit → Act → World → Prop} (ty : TypeId) (x y : Operand) (ho : o.op = .store ty x y)
    (g of : Nat) (cells : Array Value) (hx : a.eval x = .pointer (some ⟨g, of, none⟩)) (hy : a.eval y = .agg cells)
    (t : TypeId) (old : Array Value) (hg : w.heap[g]? = some (.cells old t (0, 0))) (hi : (P.info? ty).map (·.size) = some cells.size)
    (hold : of + cells.size ≤ old.size) (h1 : cells.all (·.oneCell') = true)
    (h : K (a.put o.dst undef) (w.setRow g (old.toList.take of ++ cells.toList ++ old.toList.drop (of + cells.size)).toArray)) : o.wp P a w K Q := by
  have hst := run_storeCells_at P g of t cells.toList 0 old w hg (by simpa using hold) (fun v hv => (Array.all_eq_true_iff_forall_mem.1 h1) v (by simpa using hv))
  simp only [Nat.add_zero, Array.length_toList] at hst
  have hrun : (storeVar ty ⟨g, of, none⟩ (.agg cells)).run P w = .ok () (w.setRow g (old.toList.take of ++ cells.toList ++ old.toList.drop (of + cells.size)).toArray) := by
    cases hq : P.info? ty with
    | none => simp [hq] at hi
    | some i =>
      have hs : cells.size = i.size := by simp [hq] at hi; omega
      rw [hs] at hst
      simp [storeVar, sizeOf, typeInfo, hq, Value.cells, hs, hst]
  unfold Oper.wp execOp
  simp only [ho, hx, hy, Instr.storeAt, Instr.sureAddr, Sem.run_bind, Sem.run_pure, Result.andThen_ok, hrun]
  exact h
theorem op_wanted {ops : Array Oper} {o : Oper} {a : Act} {E F : Prop} (hgd : o.guard = none) (h : E) : if Region.wanted o (yielded ops a.tmps) then E else F := by
  have hw : Region.wanted o (yielded ops a.tmps) = true := by simp [Region.wanted, hgd]
  rw [if_pos hw]; exact h
theorem wpList_store_at {ops : Array Oper} {rest : List Oper} {o : Oper} {a : Act} {w : World} {Q : Exit → Act → World → Prop} (hgd : o.guard = none) (ty : TypeId) (x y : Operand) (ho : o.op = .store ty x y)
    (g of : Nat) (cells : Array Value) (hx : a.eval x = .pointer (some ⟨g, of, none⟩)) (hy : a.eval y = .agg cells)
    (t : TypeId) (old : Array Value) (hg : w.heap[g]? = some (.cells old t (0, 0))) (hi : (P.info? ty).map (·.size) = some cells.size)
    (hold : of + cells.size ≤ old.size) (h1 : cells.all (·.oneCell') = true)
    (h : wpList P ops Q rest (a.put o.dst undef) (w.setRow g (old.toList.take of ++ cells.toList ++ old.toList.drop (of + cells.size)).toArray)) : wpList P ops Q (o :: rest) a w :=
  wpList_plain hgd fun _ hK => by
    have hst := run_storeCells_at P g of t cells.toList 0 old w hg (by simpa using hold) (fun v hv => (Array.all_eq_true_iff_forall_mem.1 h1) v (by simpa using hv))
    simp only [Nat.add_zero, Array.length_toList] at hst
    have hrun : (storeVar ty ⟨g, of, none⟩ (.agg cells)).run P w = .ok () (w.setRow g (old.toList.take of ++ cells.toList ++ old.toList.drop (of + cells.size)).toArray) := by
      cases hq : P.info? ty with
      | none => simp [hq] at hi
      | some i =>
        have hs : cells.size = i.size := by simp [hq] at hi; omega
        rw [hs] at hst
        simp [storeVar, sizeOf, typeInfo, hq, Value.cells, hs, hst]
    unfold Oper.wp execOp
    simp only [ho, hx, hy, Instr.storeAt, Instr.sureAddr, Sem.run_bind, Sem.run_pure, Result.andThen_ok, hrun]
    exact hK _ _ h
end

/-- Nothing but one block has turned, and new blocks may have come. -/
structure Only (B : Nat) (w w' : World) : Prop where
  os : w'.os = w.os
  tape : w'.tape = w.tape
  output : w'.output = w.output
  size : w.heap.size ≤ w'.heap.size
  block : ∀ k, k < w.heap.size → k ≠ B → w'.heap[k]? = w.heap[k]?
theorem Only.refl (B : Nat) (w : World) : Only B w w := ⟨rfl, rfl, rfl, Nat.le_refl _, fun _ _ _ => rfl⟩
theorem Only.trans {B : Nat} {a b c : World} (h1 : Only B a b) (h2 : Only B b c) : Only B a c :=
  ⟨h2.os.trans h1.os, h2.tape.trans h1.tape, h2.output.trans h1.output, Nat.le_trans h1.size h2.size, fun k hk hB => (h2.block k (Nat.lt_of_lt_of_le hk h1.size) hB).trans (h1.block k hk hB)⟩
theorem Below.only {B D : Nat} {w u : World} (h : Below D w u) (hD : w.heap.size ≤ D) : Only B w u := ⟨h.os, h.tape, h.output, h.size, fun k hk _ => h.block k (by omega)⟩
theorem Only.then {B : Nat} {a b c : World} (h1 : Only B a b) (h2 : Below b.heap.size b c) : Only B a c := h1.trans (Below.only h2 (Nat.le_refl _))
theorem Only.drew {B : Nat} {a b : World} (h : Only B a b) : Only B a b.drew := ⟨h.os, h.tape, h.output, h.size, h.block⟩
theorem Only.setRow {B : Nat} {a b : World} (h : Only B a b) (cs : Array Value) : Only B a (b.setRow B cs) :=
  ⟨h.os, h.tape, h.output, by rw [setRow_size]; exact h.size, fun k hk hB => by rw [setRow_other _ _ _ _ hB]; exact h.block k hk hB⟩
theorem Only.setCell {B i : Nat} {a b : World} (h : Only B a b) (v : Value) : Only B a (b.setCell ⟨B, i, none⟩ v) := by
  have hb : Below 0 b (b.setCell ⟨B, i, none⟩ v) := Below.setCell (Below.refl 0 b) (Nat.zero_le _) v
  refine ⟨?_, ?_, ?_, ?_, fun k hk hB => by rw [heap_setCell_other _ _ _ _ hB]; exact h.block k hk hB⟩
  · exact hb.os.trans h.os
  · exact hb.tape.trans h.tape
  · exact hb.output.trans h.output
  · exact Nat.le_trans h.size hb.size
theorem Only.toBelow {B D : Nat} {a b : World} (h : Only B a b) (hD : D ≤ B) (hs : D ≤ a.heap.size) : Below D a b := ⟨h.os, h.tape, h.output, h.size, fun k hk => h.block k (by omega) (by omega)⟩
theorem Only.cell {B : Nat} {a b : World} (h : Only B a b) {p : Addr} (hp : p.block < a.heap.size) (hB : p.block ≠ B) : b.cell? p = a.cell? p := by
  unfold World.cell?
  rw [h.block _ hp hB]


theorem Mt.extract_list (p : ByteArray) (n : Nat) : (p.extract n p.size).data.toList = p.data.toList.drop n := by
  have h : (p.extract n p.size).data = p.data.extract n p.size := by rw [ByteArray.data_extract]
  rw [h, Array.toList_extract]
  unfold List.extract
  exact List.take_of_length_le (by rw [List.length_drop]; exact Nat.le_refl _)


section
variable {P : Program} {ops : Array Oper}
theorem still_load5 {o : Oper} {a : Act} {w : World} {K : Act → Prop} (hgd : o.guard = none) (ty : TypeId) (x : Operand) (ho : o.op = .load ty x) (p : Addr) (v : Value)
    (hx : a.eval x = .pointer (some p)) (hr : (loadVar ty p).run P w = .ok v w) (h : K (a.put o.dst v)) :
    if Region.wanted o (yielded ops a.tmps) then o.still P a w K else K (a.put o.dst undef) := by
  have hw : Region.wanted o (yielded ops a.tmps) = true := by simp [Region.wanted, hgd]
  rw [if_pos hw]
  unfold Oper.still execOp
  simp only [ho, hx, Instr.loadAt, Instr.sureAddr, Sem.run_bind, Sem.run_pure, Result.andThen_ok, hr]
  exact ⟨rfl, h⟩
end

end Go.Proofs.YtngdbhncafnliaaGreat

/-
  What a call leaves as it was, where it turns some blocks alone.
-/
namespace Go.Proofs.YtngdbhncafnliaaGreat
open Go.RowKit

theorem Tryz.szU8 : (Tryz.prog.info? 5).map (·.size) = some 1 := by kernel_rfl
theorem Tryz.infoU8 : (Tryz.prog.info? 5).map (fun i => (i.zero, i.size, i.bytes)) = some (some (.int .u8 0), 1, 1) := by kernel_rfl

/-! ### what a call leaves as it was -/
/-- Nothing but these blocks has turned, and new blocks may have come. -/
structure OnlyS (S : List Nat) (w w' : World) : Prop where
  os : w'.os = w.os
  tape : w'.tape = w.tape
  output : w'.output = w.output
  size : w.heap.size ≤ w'.heap.size
  block : ∀ k, k < w.heap.size → k ∉ S → w'.heap[k]? = w.heap[k]?
theorem OnlyS.refl (S : List Nat) (w : World) : OnlyS S w w := ⟨rfl, rfl, rfl, Nat.le_refl _, fun _ _ _ => rfl⟩
theorem OnlyS.trans {S : List Nat} {a b c : World} (h1 : OnlyS S a b) (h2 : OnlyS S b c) : OnlyS S a c :=
  ⟨h2.os.trans h1.os, h2.tape.trans h1.tape, h2.output.trans h1.output, Nat.le_trans h1.size h2.size, fun k hk hS => (h2.block k (Nat.lt_of_lt_of_le hk h1.size) hS).trans (h1.block k hk hS)⟩
theorem OnlyS.mono {S T : List Nat} {a b : World} (h : OnlyS S a b) (hT : ∀ k ∈ S, k ∈ T) : OnlyS T a b := ⟨h.os, h.tape, h.output, h.size, fun k hk hS => h.block k hk fun hk2 => hS (hT k hk2)⟩
theorem Below.onlyS {S : List Nat} {D : Nat} {w u : World} (h : Below D w u) (hD : w.heap.size ≤ D) : OnlyS S w u := ⟨h.os, h.tape, h.output, h.size, fun k hk _ => h.block k (by omega)⟩
theorem OnlyS.then {S : List Nat} {a b c : World} (h1 : OnlyS S a b) (h2 : Below b.heap.size b c) : OnlyS S a c := h1.trans (Below.onlyS h2 (Nat.le_refl _))
theorem OnlyS.drew {S : List Nat} {a b : World} (h : OnlyS S a b) : OnlyS S a b.drew := ⟨h.os, h.tape, h.output, h.size, h.block⟩
theorem OnlyS.drewN {S : List Nat} {a b : World} (n : Nat) (h : OnlyS S a b) : OnlyS S a (b.drewN n) := ⟨h.os, h.tape, h.output, h.size, h.block⟩
theorem OnlyS.alloc {S : List Nat} {a b : World} (h : OnlyS S a b) (o : Obj) : OnlyS S a (b.alloc o) := h.then ((Below.refl _ _).alloc (Nat.le_refl _) o)
theorem OnlyS.setRow {S : List Nat} {a b : World} (h : OnlyS S a b) {g : Nat} (hg : g ∈ S) (cs : Array Value) : OnlyS S a (b.setRow g cs) :=
  ⟨h.os, h.tape, h.output, by rw [setRow_size]; exact h.size, fun k hk hS => by rw [setRow_other _ _ _ _ (fun e => hS (by rw [e]; exact hg))]; exact h.block k hk hS⟩
theorem OnlyS.setCell {S : List Nat} {a b : World} (h : OnlyS S a b) {g i : Nat} (hg : g ∈ S) (v : Value) : OnlyS S a (b.setCell ⟨g, i, none⟩ v) := by
  have hb : Below 0 b (b.setCell ⟨g, i, none⟩ v) := Below.setCell (Below.refl 0 b) (Nat.zero_le _) v
  exact ⟨hb.os.trans h.os, hb.tape.trans h.tape, hb.output.trans h.output, Nat.le_trans h.size hb.size, fun k hk hS => by rw [heap_setCell_other _ _ _ _ (fun e => hS (by rw [e]; exact hg))]; exact h.block k hk hS⟩
theorem OnlyS.grown {S : List Nat} {a b c : World} (h : OnlyS S a b) {g : Nat} (hg : g ∈ S) (h2 : b.grownBy c (some g)) : OnlyS S a c :=
  h.trans ⟨h2.os, h2.tape, h2.output, h2.size, fun k hk hS => h2.block k hk (fun e => hS (by cases e; exact hg))⟩
theorem OnlyS.grown0 {S : List Nat} {a b c : World} (h : OnlyS S a b) (h2 : b.grownBy c none) : OnlyS S a c :=
  h.trans ⟨h2.os, h2.tape, h2.output, h2.size, fun k hk _ => h2.block k hk (fun e => by cases e)⟩
theorem OnlyS.toBelow {S : List Nat} {D : Nat} {a b : World} (h : OnlyS S a b) (hS : ∀ k ∈ S, D ≤ k) (hs : D ≤ a.heap.size) : Below D a b := ⟨h.os, h.tape, h.output, h.size, fun k hk => h.block k (by omega) (fun hm => by have := hS k hm; omega)⟩
theorem OnlyS.cell {S : List Nat} {a b : World} (h : OnlyS S a b) {p : Addr} (hp : p.block < a.heap.size) (hS : p.block ∉ S) : b.cell? p = a.cell? p := by
  unfold World.cell?
  rw [h.block _ hp hS]
theorem lt_of_block {w : World} {b : Nat} {o : Obj} (h : w.heap[b]? = some o) : b < w.heap.size := by
  rcases Nat.lt_or_ge b w.heap.size with h2 | h2
  · exact h2
  · rw [Array.getElem?_eq_none h2] at h; cases h

end Go.Proofs.YtngdbhncafnliaaGreat

/-
  Bytes in a slice, wherever in its block it begins; what append does to them.
-/
namespace Go.Proofs.YtngdbhncafnliaaGreat
open Go.RowKit

/-- Bytes in a slice. -/
def IsByt (w : World) (g : Nat) (v : Value) (l : List UInt8) : Prop :=
  (l = [] ∧ v = .slice none 0 0) ∨ ∃ off cap cur, v = .slice (some ⟨g, off, none⟩) l.length cap ∧ w.heap[g]? = some (.cells cur 5 (0, 0)) ∧ l.length ≤ cap ∧ off + cap ≤ cur.size ∧ ∀ j (hj : j < l.length), cur[off + j]? = some (.int .u8 (l[j].toNat : Int))

theorem IsByt.kept {w u : World} {g : Nat} {v : Value} {l : List UInt8} (h : IsByt w g v l) (hg : u.heap[g]? = w.heap[g]?) : IsByt u g v l := by
  rcases h with h | ⟨off, cap, cur, h1, h2, h3⟩
  · exact .inl h
  · exact .inr ⟨off, cap, cur, h1, hg.trans h2, h3⟩

section
variable {P : Program}
theorem run_append_room_row (w : World) (t tx ty e : TypeId) (i : TypeInfo) (ht : P.underlying t = some (.slice e)) (hi : P.info? e = some i) (hsz : i.size = 1) (g off sLen sCap : Nat) (x : Value) (n : Nat) (news : List Value) (hs : Src P i.size tx x n news w)
    (hroom : sLen + n ≤ sCap) (cur : Array Value) (t' : TypeId) (hg : w.heap[g]? = some (.cells cur t' (0, 0))) (hfit : off + sCap ≤ cur.size) :
    (Builtin.append_ #[t, tx] ty #[.slice (some ⟨g, off, none⟩) sLen sCap, x]).run P w = .ok (.slice (some ⟨g, off, none⟩) (sLen + n) sCap)
      (w.setRow g (cur.toList.take (off + sLen) ++ news ++ cur.toList.drop (off + sLen + n)).toArray) := by
  have hnl : news.length = n := by have := hs.newsLen; rw [hsz] at this; omega
  have hst := run_storeCells_at P g (off + sLen) t' news 0 cur w hg (by simp [hnl]; omega) hs.one
  rw [hnl] at hst
  simp only [Nat.add_zero] at hst
  have hcs := hs.cells
  rw [hsz] at hcs
  rcases hs.kind with ⟨e', hk⟩ | hk <;> simp [Builtin.append_, run_underlying ht, run_underlying hk, sizeOf, typeInfo, hi, hs.len, hroom, hcs, Addr.add_lit, hsz, hst]
end

theorem Mt.cs_get (L : List UInt8) (k : Nat) (h : k < L.length) : (Mt.cs L)[k]? = some (.int .u8 (L[k].toNat : Int)) := by
  simp [Mt.cs, List.getElem?_eq_getElem h]
theorem Mt.cs_eq (s : ByteArray) : byteCells s = Mt.cs s.data.toList := rfl

/-- What append of a text onto bytes comes to. -/
theorem byt_append {w : World} {g : Nat} {v : Value} {l : List UInt8} (h : IsByt w g v l) (s : ByteArray) (hsz : l.length + s.size ≤ 70368744177664) :
    ∃ v' w' g', (∀ ty, (Builtin.append_ #[114, 9] ty #[v, .string s]).run Tryz.prog w = .ok v' w') ∧ IsByt w' g' v' (l ++ s.data.toList) ∧ (g' = g ∨ g' = w.heap.size) ∧ OnlyS [g] w w' := by
  obtain ⟨i0, hi, hz0, hz1, hz2⟩ := info_parts Tryz.infoU8
  have hsl : s.data.toList.length = s.size := rfl
  by_cases h0 : s.size = 0
  · have hs0 : s.data.toList = [] := List.eq_nil_of_length_eq_zero (by omega)
    have src : ∀ u : World, Src Tryz.prog i0.size 9 (.string s) 0 [] u := fun u => by
      have := Src.ofString (P := Tryz.prog) u Tryz.underlying9 s
      rw [Mt.cs_eq, hs0, h0, ← hz1] at this
      exact this
    rcases h with ⟨rfl, rfl⟩ | ⟨off, cap, cur, rfl, h2, h3, h4, h5⟩
    · refine ⟨_, w, g, fun ty => run_append_nothing w 114 9 ty 5 i0 Tryz.underlying114 hi none 0 0 (Nat.le_refl _) _ (src w), .inl ⟨by simp [hs0], rfl⟩, .inl rfl, OnlyS.refl _ _⟩
    · refine ⟨_, w, g, fun ty => run_append_nothing w 114 9 ty 5 i0 Tryz.underlying114 hi _ _ _ h3 _ (src w), .inr ⟨off, cap, cur, by simp [hs0], h2, by simpa [hs0] using h3, h4, ?_⟩, .inl rfl, OnlyS.refl _ _⟩
      simpa [hs0] using h5
  · have src : ∀ u : World, Src Tryz.prog i0.size 9 (.string s) s.size (Mt.cs s.data.toList) u := fun u => by
      have := Src.ofString (P := Tryz.prog) u Tryz.underlying9 s
      rw [Mt.cs_eq, ← hz1] at this
      exact this
    by_cases hroom : ∃ off cap cur, v = .slice (some ⟨g, off, none⟩) l.length cap ∧ w.heap[g]? = some (.cells cur 5 (0, 0)) ∧ l.length + s.size ≤ cap ∧ off + cap ≤ cur.size ∧ ∀ j (hj : j < l.length), cur[off + j]? = some (.int .u8 (l[j].toNat : Int))
    · obtain ⟨off, cap, cur, rfl, h2, h3, h4, h5⟩ := hroom
      refine ⟨_, _, g, fun ty => run_append_room_row w 114 9 ty 5 i0 Tryz.underlying114 hi hz1 g off l.length cap _ s.size _ (src w) h3 cur 5 h2 h4, ?_, .inl rfl, (OnlyS.refl _ _).setRow (by simp) _⟩
      refine .inr ⟨off, cap, _, by rw [List.length_append, hsl], setRow_heap _ _ cur _ 5 (0, 0) h2, by rw [List.length_append, hsl]; exact h3, ?_, ?_⟩
      · rw [List.size_toArray, List.length_append, List.length_append, List.length_take, List.length_drop, Mt.cs_length, hsl, Array.length_toList (xs := cur)]; omega
      · intro j hj
        have ht : (cur.toList.take (off + l.length)).length = off + l.length := by rw [List.length_take, Array.length_toList (xs := cur)]; omega
        rw [List.getElem?_toArray, List.append_assoc]
        by_cases hjl : j < l.length
        · rw [List.getElem?_append_left (by rw [ht]; omega), List.getElem?_take, if_pos (by omega), Array.getElem?_toList, h5 j hjl]
          simp [List.getElem_append_left hjl]
        · rw [List.getElem?_append_right (by rw [ht]; omega), ht]
          have hj2 : off + j - (off + l.length) < s.data.toList.length := by rw [List.length_append] at hj; omega
          rw [List.getElem?_append_left (by rw [Mt.cs_length]; exact hj2)]
          have e : off + j - (off + l.length) = j - l.length := by omega
          rw [Mt.cs_get _ _ hj2, List.getElem_append_right (by omega)]
          simp only [e]
    · -- no room: a new block
      have hgrow : ∀ (base : Option Addr) (cap : Nat) (olds : List Value), (Builtin.firstCells i0.size l.length (.slice base l.length cap)).run Tryz.prog w.drew = .ok olds.toArray w.drew → olds = Mt.cs l → cap < l.length + s.size →
          ∃ v' w' g', (∀ ty, (Builtin.append_ #[114, 9] ty #[.slice base l.length cap, .string s]).run Tryz.prog w = .ok v' w') ∧ IsByt w' g' v' (l ++ s.data.toList) ∧ (g' = g ∨ g' = w.heap.size) ∧ OnlyS [g] w w' := by
        intro base cap olds hold holds hcap
        have hcc := grownCap_ge w (l.length + s.size) cap 5
        refine ⟨_, _, w.heap.size, fun ty => run_append_grow_src w 114 9 ty 5 i0 (.int .u8 0) Tryz.underlying114 hi hz0 base l.length cap olds hold _ s.size _ (src w) hcap (by omega) (growslice_fits hcap (by rw [hz2]; omega)), ?_, .inr rfl, (OnlyS.refl _ _).drew.alloc _⟩
        subst holds
        refine .inr ⟨0, _, _, by rw [List.length_append, hsl], heap_alloc_new _ _, by rw [List.length_append, hsl]; exact hcc, ?_, ?_⟩
        · rw [Array.size_append, size_zeroCells, List.size_toArray, List.length_append, Mt.cs_length, Mt.cs_length, hsl]; simp [Value.cells]; omega
        · intro j hj
          rw [Nat.zero_add, Array.getElem?_append_left (by simp [Mt.cs_length]; rw [List.length_append] at hj; omega)]
          rw [← Mt.cs_append, List.getElem?_toArray]
          exact Mt.cs_get _ _ hj
      rcases h with ⟨rfl, rfl⟩ | ⟨off, cap, cur, rfl, h2, h3, h4, h5⟩
      · exact hgrow none 0 [] (run_firstCells_none w.drew i0.size 0 0 0) rfl (by simp; omega)
      · refine hgrow _ cap (Mt.cs l) (run_firstCells_some w.drew i0.size l.length ⟨g, off, none⟩ l.length cap (Mt.cs l) (by rw [Mt.cs_length, hz1, Nat.mul_one]) ?_) rfl ?_
        · intro j u hu
          obtain ⟨hj, rfl⟩ := Mt.cs_getD l j u hu
          rw [add_off]
          have := h5 j hj
          rw [World.cell?_drew]
          rw [cell_of_row w g _ cur 5 (0, 0) h2, this]
          simp [List.getD, List.getElem?_eq_getElem hj]
        · exact Nat.lt_of_not_le fun hle => hroom ⟨off, cap, cur, rfl, h2, hle, h4, h5⟩
theorem wpList_append_run {P : Program} {ops : Array Oper} {rest : List Oper} {o : Oper} {a : Act} {w : World} {Q : Exit → Act → World → Prop} (hgd : o.guard = none) (d s : Operand) (t t' : TypeId)
    (ho : o.op = .call { callee := .builtin .append, args := #[d, s], argTypes := #[t, t'] }) (v u : Value) (hd : a.eval d = v) (hs : a.eval s = u) {v' : Value} {w' : World}
    (hr : ∀ ty, (Builtin.append_ #[t, t'] ty #[v, u]).run P w = .ok v' w') (h : wpList P ops Q rest (a.put o.dst v') w') : wpList P ops Q (o :: rest) a w :=
  wpList_plain hgd fun _ hK => by
    unfold Oper.wp execOp
    simp only [ho, resolve, invoke, builtin, Sem.run_bind, Sem.run_pure, Result.andThen_ok, List.map_toArray, List.map_cons, List.map_nil, hd, hs, hr]
    exact hK _ _ h
theorem byt_text {w : World} {g off n cap : Nat} {l : List UInt8} {cur : Array Value} (hg : w.heap[g]? = some (.cells cur 5 (0, 0))) (hc : ∀ j (hj : j < l.length), cur[off + j]? = some (.int .u8 (l[j].toNat : Int))) (hn : n ≤ l.length) :
    (convert 114 9 (.slice (some ⟨g, off, none⟩) n cap)).run Tryz.prog w = .ok (.string (Mt.str (l.take n))) w := by
  have h := run_convert_bytes_arg (P := Tryz.prog) w 114 5 Tryz.underlying114 Tryz.underlying5 g off n cap ((l.take n).map fun c => (c.toNat : Int)) (by simp; omega) (fun i hi => by
    rw [cell_of_row w g _ cur 5 (0, 0) hg, hc i (by omega)]
    simp [List.getD, List.getElem?_map, List.getElem?_take, hi, List.getElem?_eq_getElem (show i < l.length by omega)]) 9 Tryz.underlying9
  rw [Mt.str_nums] at h
  exact h
end Go.Proofs.YtngdbhncafnliaaGreat
