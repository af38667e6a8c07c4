/-
  What the state's write comes to.
-/
import Derived.Test.YtpdionmecflibaaDoorEnd
import Derived.Laws.CopyRow
import Derived.Test.YtpdionmecflibaaDoorLast
namespace Go.Proofs.YtpdionmecflibaaDoor
open Go.RowKit

section
variable {P : Program}
theorem run_copy_str (w : World) (dT sT ty elem : TypeId) (g o dLen dCap n : Nat) (s : ByteArray) (cur : Array Value) (t : TypeId)
    (hu : P.underlying dT = some (.slice elem)) (hs : (P.info? elem).map (·.size) = some 1) (hg : w.heap[g]? = some (.cells cur t (0, 0))) (hn : Nat.min s.size dLen = n) (hfit : o + n ≤ cur.size) :
    (Builtin.copy_ #[dT, sT] ty #[.slice (some ⟨g, o, none⟩) dLen dCap, .string s]).run P w =
      .ok (goInt n) (w.setRow g (cur.toList.take o ++ Mt.cs (s.data.toList.take n) ++ cur.toList.drop (o + n)).toArray) := by
  have hns : n ≤ s.data.toList.length := by
    have : s.data.toList.length = s.size := rfl
    rw [this, ← hn]; exact Nat.min_le_left _ _
  have hlen : (Mt.cs (s.data.toList.take n)).length = n := by rw [Mt.cs_length, List.length_take]; omega
  have hst := run_storeCells_at P g o t (Mt.cs (s.data.toList.take n)) 0 cur w hg (by rw [hlen]; simpa using hfit) (Mt.cs_one _)
  have htk : List.take n (List.map (fun b : UInt8 => Value.int IntKind.u8 (b.toNat : Int)) s.data.toList) = Mt.cs (s.data.toList.take n) := by
    simp [Mt.cs, List.map_take]
  rw [hlen] at hst
  simp only [Nat.add_zero] at hst
  cases hq : P.info? elem with
  | none => simp [hq] at hs
  | some i =>
    simp [Builtin.copy_, run_underlying hu, Builtin.lenOf, Builtin.firstCells, sizeOf, typeInfo, hq, hn]
    rw [htk, hst]
    simp [Result.andThen]
theorem wpList_copy_run (w : World) {ops : Array Oper} {rest : List Oper} {o : Oper} {a : Act} {Q : Exit → Act → World → Prop} (hgd : o.guard = none) (d s : Operand) (t t' : TypeId)
    (ho : o.op = .call { callee := .builtin .copy, args := #[d, s], argTypes := #[t, t'] }) (v u : Value) (hd : a.eval d = v) (hs : a.eval s = u) {v' : Value} {w' : World}
    (hr : ∀ ty, (Builtin.copy_ #[t, t'] ty #[v, u]).run P w = .ok v' w') (h : wpList P ops Q rest (a.put o.dst v') w') : wpList P ops Q (o :: rest) a w :=
  wpList_plain hgd fun _ hK => by
    unfold Oper.wp execOp
    simp only [ho, resolve, invoke, builtin, Sem.run_bind, Sem.run_pure, Result.andThen_ok, List.map_toArray, List.map_cons, List.map_nil, hd, hs, hr]
    exact hK _ _ h
theorem op_load {ops : Array Oper} {o : Oper} {a : Act} {w : World} {K : Act → World → Prop} {Q : Exit → Act → World → Prop} {E : Prop} (hgd : o.guard = none) (ty : TypeId) (x : Operand) (ho : o.op = .load ty x) (p : Addr) (v : Value)
    (hx : a.eval x = .pointer (some p)) (hr : (loadVar ty p).run P w = .ok v w) (h : K (a.put o.dst v) w) :
    if Region.wanted o (yielded ops a.tmps) then o.wp P a w K Q else E := by
  have hw : Region.wanted o (yielded ops a.tmps) = true := by simp [Region.wanted, hgd]
  rw [if_pos hw]
  unfold Oper.wp execOp
  simp only [ho, hx, Instr.loadAt, Instr.sureAddr, Sem.run_bind, Sem.run_pure, Result.andThen_ok, hr]
  exact h
theorem wp_store_at {o : Oper} {a : Act} {w : World} {K : Act → World → Prop} {Q : Exit → Act → World → Prop} (ty : TypeId) (x y : Operand) (ho : o.op = .store ty x y)
    (g of : Nat) (cells : Array Value) (hx : a.eval x = .pointer (some ⟨g, of, none⟩)) (hy : a.eval y = .agg cells)
    (t : TypeId) (old : Array Value) (hg : w.heap[g]? = some (.cells old t (0, 0))) (hi : (P.info? ty).map (·.size) = some cells.size)
    (hold : of + cells.size ≤ old.size) (h1 : cells.all (·.oneCell') = true)
    (h : K (a.put o.dst undef) (w.setRow g (old.toList.take of ++ cells.toList ++ old.toList.drop (of + cells.size)).toArray)) : o.wp P a w K Q := by
  have hst := run_storeCells_at P g of t cells.toList 0 old w hg (by simpa using hold) (fun v hv => (Array.all_eq_true_iff_forall_mem.1 h1) v (by simpa using hv))
  simp only [Nat.add_zero, Array.length_toList] at hst
  have hrun : (storeVar ty ⟨g, of, none⟩ (.agg cells)).run P w = .ok () (w.setRow g (old.toList.take of ++ cells.toList ++ old.toList.drop (of + cells.size)).toArray) := by
    cases hq : P.info? ty with
    | none => simp [hq] at hi
    | some i =>
      have hs : cells.size = i.size := by simp [hq] at hi; omega
      rw [hs] at hst
      simp [storeVar, sizeOf, typeInfo, hq, Value.cells, hs, hst]
  unfold Oper.wp execOp
  simp only [ho, hx, hy, Instr.storeAt, Instr.sureAddr, Sem.run_bind, Sem.run_pure, Result.andThen_ok, hrun]
  exact h
theorem op_wanted {ops : Array Oper} {o : Oper} {a : Act} {E F : Prop} (hgd : o.guard = none) (h : E) : if Region.wanted o (yielded ops a.tmps) then E else F := by
  have hw : Region.wanted o (yielded ops a.tmps) = true := by simp [Region.wanted, hgd]
  rw [if_pos hw]; exact h
theorem wpList_store_at {ops : Array Oper} {rest : List Oper} {o : Oper} {a : Act} {w : World} {Q : Exit → Act → World → Prop} (hgd : o.guard = none) (ty : TypeId) (x y : Operand) (ho : o.op = .store ty x y)
    (g of : Nat) (cells : Array Value) (hx : a.eval x = .pointer (some ⟨g, of, none⟩)) (hy : a.eval y = .agg cells)
    (t : TypeId) (old : Array Value) (hg : w.heap[g]? = some (.cells old t (0, 0))) (hi : (P.info? ty).map (·.size) = some cells.size)
    (hold : of + cells.size ≤ old.size) (h1 : cells.all (·.oneCell') = true)
    (h : wpList P ops Q rest (a.put o.dst undef) (w.setRow g (old.toList.take of ++ cells.toList ++ old.toList.drop (of + cells.size)).toArray)) : wpList P ops Q (o :: rest) a w :=
  wpList_plain hgd fun _ hK => by
    have hst := run_storeCells_at P g of t cells.toList 0 old w hg (by simpa using hold) (fun v hv => (Array.all_eq_true_iff_forall_mem.1 h1) v (by simpa using hv))
    simp only [Nat.add_zero, Array.length_toList] at hst
    have hrun : (storeVar ty ⟨g, of, none⟩ (.agg cells)).run P w = .ok () (w.setRow g (old.toList.take of ++ cells.toList ++ old.toList.drop (of + cells.size)).toArray) := by
      cases hq : P.info? ty with
      | none => simp [hq] at hi
      | some i =>
        have hs : cells.size = i.size := by simp [hq] at hi; omega
        rw [hs] at hst
        simp [storeVar, sizeOf, typeInfo, hq, Value.cells, hs, hst]
    unfold Oper.wp execOp
    simp only [ho, hx, hy, Instr.storeAt, Instr.sureAddr, Sem.run_bind, Sem.run_pure, Result.andThen_ok, hrun]
    exact hK _ _ h
end

/-- A state to which so much was written. -/
def IsSt (w : World) (B : Nat) (M : List UInt8) : Prop := ∃ R, IsState w B (Mt.mid M) R M.length ∧ R.take (M.length % 64) = Mt.left M

theorem IsSt.below {w u : World} {B D : Nat} {M : List UInt8} (h : IsSt w B M) (hb : Below D w u) (hD : B < D) : IsSt u B M := by
  obtain ⟨R, h1, h2⟩ := h
  exact ⟨R, h1.below hb hD, h2⟩

/-- Nothing but one block has turned, and new blocks may have come. -/
structure Only (B : Nat) (w w' : World) : Prop where
  os : w'.os = w.os
  tape : w'.tape = w.tape
  output : w'.output = w.output
  size : w.heap.size ≤ w'.heap.size
  block : ∀ k, k < w.heap.size → k ≠ B → w'.heap[k]? = w.heap[k]?
theorem Only.refl (B : Nat) (w : World) : Only B w w := ⟨rfl, rfl, rfl, Nat.le_refl _, fun _ _ _ => rfl⟩
theorem Only.trans {B : Nat} {a b c : World} (h1 : Only B a b) (h2 : Only B b c) : Only B a c :=
  ⟨h2.os.trans h1.os, h2.tape.trans h1.tape, h2.output.trans h1.output, Nat.le_trans h1.size h2.size, fun k hk hB => (h2.block k (Nat.lt_of_lt_of_le hk h1.size) hB).trans (h1.block k hk hB)⟩
theorem Below.only {B D : Nat} {w u : World} (h : Below D w u) (hD : w.heap.size ≤ D) : Only B w u := ⟨h.os, h.tape, h.output, h.size, fun k hk _ => h.block k (by omega)⟩
theorem Only.then {B : Nat} {a b c : World} (h1 : Only B a b) (h2 : Below b.heap.size b c) : Only B a c := h1.trans (Below.only h2 (Nat.le_refl _))
theorem Only.drew {B : Nat} {a b : World} (h : Only B a b) : Only B a b.drew := ⟨h.os, h.tape, h.output, h.size, h.block⟩
theorem Only.setRow {B : Nat} {a b : World} (h : Only B a b) (cs : Array Value) : Only B a (b.setRow B cs) :=
  ⟨h.os, h.tape, h.output, by rw [setRow_size]; exact h.size, fun k hk hB => by rw [setRow_other _ _ _ _ hB]; exact h.block k hk hB⟩
theorem Only.setCell {B i : Nat} {a b : World} (h : Only B a b) (v : Value) : Only B a (b.setCell ⟨B, i, none⟩ v) := by
  have hb : Below 0 b (b.setCell ⟨B, i, none⟩ v) := Below.setCell (Below.refl 0 b) (Nat.zero_le _) v
  refine ⟨?_, ?_, ?_, ?_, fun k hk hB => by rw [heap_setCell_other _ _ _ _ hB]; exact h.block k hk hB⟩
  · exact hb.os.trans h.os
  · exact hb.tape.trans h.tape
  · exact hb.output.trans h.output
  · exact Nat.le_trans h.size hb.size
theorem Only.toBelow {B D : Nat} {a b : World} (h : Only B a b) (hD : D ≤ B) (hs : D ≤ a.heap.size) : Below D a b := ⟨h.os, h.tape, h.output, h.size, fun k hk => h.block k (by omega) (by omega)⟩
theorem Only.cell {B : Nat} {a b : World} (h : Only B a b) {p : Addr} (hp : p.block < a.heap.size) (hB : p.block ≠ B) : b.cell? p = a.cell? p := by
  unfold World.cell?
  rw [h.block _ hp hB]

/-- The package variables lie elsewhere. -/
def LaidN (B : Nat) (w : World) : Prop := Laid w ∧ 0 ≠ B ∧ 1 ≠ B
theorem LaidN.only {w u : World} {B : Nat} (h : LaidN B w) (hb : Only B w u) : LaidN B u := by
  refine ⟨⟨fun i hi => ?_, fun i hi => ?_⟩, h.2⟩
  · rw [hb.cell (p := ⟨0, i, none⟩) (World.block_lt_of_cell? w _ (h.1.1 i hi)) h.2.1]; exact h.1.1 i hi
  · rw [hb.cell (p := ⟨1, i, none⟩) (World.block_lt_of_cell? w _ (h.1.2 i hi)) h.2.2]; exact h.1.2 i hi

theorem Mt.stCells_list (v : Mt.W8) (R : List UInt8) (c : Nat) : (Mt.stCells v R c).toList = (v.list.map fun (x : Nat) => Value.int .u32 (x : Int)) ++ (Mt.cs R ++ [Value.int .u64 (c : Int)]) := by
  simp [Mt.stCells]
theorem Mt.words_length (v : Mt.W8) : (v.list.map fun (x : Nat) => Value.int .u32 (x : Int)).length = 8 := rfl
theorem Mt.stCells_rest (v : Mt.W8) (R X : List UInt8) (c f n : Nat) (hR : R.length = 64) (hn : X.length = n) (hf : f + n ≤ 64) :
    ((Mt.stCells v R c).toList.take (8 + f) ++ Mt.cs X ++ (Mt.stCells v R c).toList.drop (8 + f + n)).toArray = Mt.stCells v (R.take f ++ X ++ R.drop (f + n)) c := by
  subst hn
  apply Array.ext'
  rw [Mt.stCells_list, Mt.stCells_list]
  have e1 : List.take (8 + f) ((v.list.map fun (x : Nat) => Value.int .u32 (x : Int)) ++ (Mt.cs R ++ [Value.int .u64 (c : Int)])) = (v.list.map fun (x : Nat) => Value.int .u32 (x : Int)) ++ Mt.cs (R.take f) := by
    rw [List.take_append, Mt.words_length, List.take_of_length_le (by rw [Mt.words_length]; omega), show 8 + f - 8 = f by omega, List.take_append_of_le_length (by rw [Mt.cs_length]; omega), Mt.cs_take]
  have e2 : List.drop (8 + f + X.length) ((v.list.map fun (x : Nat) => Value.int .u32 (x : Int)) ++ (Mt.cs R ++ [Value.int .u64 (c : Int)])) = Mt.cs (R.drop (f + X.length)) ++ [Value.int .u64 (c : Int)] := by
    rw [List.drop_append, Mt.words_length, List.drop_eq_nil_of_le (by rw [Mt.words_length]; omega), List.nil_append, show 8 + f + X.length - 8 = f + X.length by omega, List.drop_append_of_le_length (by rw [Mt.cs_length]; omega)]
    simp [Mt.cs]
  rw [e1, e2]
  simp [Mt.cs]
theorem Mt.stCells_set (v : Mt.W8) (R : List UInt8) (c d : Nat) (hR : R.length = 64) : (Mt.stCells v R c).setIfInBounds 72 (.int .u64 (d : Int)) = Mt.stCells v R d := by
  apply Array.ext'
  rw [Array.toList_setIfInBounds, Mt.stCells_list, Mt.stCells_list, List.set_append_right _ _ (by rw [Mt.words_length]; omega), Mt.words_length,
    List.set_append_right _ _ (by rw [Mt.cs_length, hR]; omega), Mt.cs_length, hR]
  rfl
theorem Mt.stCells_words (v u : Mt.W8) (R : List UInt8) (c : Nat) : ((Mt.stCells v R c).toList.take 0 ++ u.cells.toList ++ (Mt.stCells v R c).toList.drop (0 + u.cells.size)).toArray = Mt.stCells u R c := by
  apply Array.ext'
  rw [Mt.stCells_list, Mt.stCells_list, Mt.W8.cells_size]
  have e : List.drop (0 + 8) ((v.list.map fun (x : Nat) => Value.int .u32 (x : Int)) ++ (Mt.cs R ++ [Value.int .u64 (c : Int)])) = Mt.cs R ++ [Value.int .u64 (c : Int)] := by
    rw [List.drop_append_of_le_length (by rw [Mt.words_length]; omega), List.drop_of_length_le (by rw [Mt.words_length]; omega), List.nil_append]
  rw [e]
  simp [Mt.W8.cells, Mt.cells32]

/-- How many bytes a text has. -/
def strLen : Value → Nat
  | .string s => s.size
  | _ => 0

theorem Mt.extract_list (p : ByteArray) (n : Nat) : (p.extract n p.size).data.toList = p.data.toList.drop n := by
  have h : (p.extract n p.size).data = p.data.extract n p.size := by rw [ByteArray.data_extract]
  rw [h, Array.toList_extract]
  unfold List.extract
  exact List.take_of_length_le (by rw [List.length_drop]; exact Nat.le_refl _)

set_option maxHeartbeats 1600000 in
set_option maxRecDepth 100000 in
theorem write_any (B : Nat) (M : List UInt8) (s : ByteArray) (w : World) (h : IsSt w B M) (hg : LaidN B w) (hM : M.length + s.size ≤ 1099511627776) :
    Calls Tryd.prog 25 #[.pointer (some ⟨B, 0, none⟩), .string s] w fun e w' => e = .returned (.tuple #[]) ∧ IsSt w' B (M ++ s.data.toList) ∧ Only B w w' := by
  have HST := Lib.hid h
  have HG := Lib.hid hg
  clear h hg
  go_enter Tryd.func25, Tryd.ntmps25
  go_wp2_with fail
  go_loopw [1] (fun v wr => ∃ (M' : List UInt8) (p : ByteArray), v = .string p ∧ Hid (M' ++ p.data.toList = M ++ s.data.toList) ∧ Hid (IsSt wr B M') ∧ Hid (Only B w wr))
    (fun v _ => strLen v)
  case atStart => exact ⟨M, s, rfl, Lib.hid rfl, HST, Lib.hid (Only.refl _ _)⟩
  case round =>
    clear HST
    obtain ⟨M', p, rfl, HE, HS, HB⟩ := hrel
    have HLEN := Lib.hid (show M'.length + p.size = M.length + s.size by
      have h := congrArg List.length HE.out
      rw [List.length_append, List.length_append] at h
      exact h)
    by_cases hp : 0 < p.size
    · have hp' : (0 : Int) < (p.size : Int) := by omega
      obtain ⟨R, hR1, hR2⟩ := HS.out
      have HR1 := Lib.hid hR1
      have HR2 := Lib.hid hR2
      clear hR1 hR2 HS
      have hc60 : M'.length < 1152921504606846976 := by have := HLEN.out; omega
      obtain ⟨c, hc⟩ : ∃ c, M'.length = c := ⟨_, rfl⟩
      have HC := Lib.hid hc
      rw [hc] at HR1 HR2 HLEN hc60
      clear hc
      obtain ⟨f, hf⟩ : ∃ f, c % 64 = f := ⟨_, rfl⟩
      have hf64 : f < 64 := by omega
      have hff : (f : Int) ≤ 64 := by omega
      have hne : ¬ (64 = f) := by omega
      have HFI := Lib.hid (show Calls Tryd.prog 36 #[.pointer (some ⟨B, 0, none⟩)] wr.drew fun e w' => e = .returned (.int .i64 (f : Int)) ∧ w' = wr.drew from
        (filled_any B (Mt.mid M') R c wr.drew HR1.out hc60).mono fun e w' hh => ⟨by rw [hh.1, hf], hh.2.symm⟩)
      have HF := Lib.hid hf
      clear hf
      go_wp2_with fail
      refine wp_region_still_tail 7 (by kernel_rfl) (by kernel_rfl) ?_
      simp only [List.take_succ_cons, List.take_zero, List.drop_succ_cons, List.drop_zero]
      repeat (first | still_step | still_call HFI.out)
      refine wpStill_nil ?_
      change wpList _ _ _ _ _ wr.drew
      obtain ⟨n, hn⟩ : ∃ n, Nat.min p.size (64 - f) = n := ⟨_, rfl⟩
      have hn0 : 0 < n := by rw [← hn]; exact Nat.lt_min.2 ⟨hp, by omega⟩
      have hnp : n ≤ p.size := by rw [← hn]; exact Nat.min_le_left _ _
      have hnf : n ≤ 64 - f := by rw [← hn]; exact Nat.min_le_right _ _
      have hfull : n = 64 - f ∨ (n = p.size ∧ n < 64 - f) := by
        rcases Nat.le_total p.size (64 - f) with h | h
        · have e : Nat.min p.size (64 - f) = p.size := Nat.min_eq_left h
          omega
        · have e : Nat.min p.size (64 - f) = 64 - f := Nat.min_eq_right h
          omega
      have HCOPY := Lib.hid (fun ty => run_copy_str wr.drew 46 9 ty 5 B (8 + f) (64 - f) (64 - f) n p _ 60 Tryd.underlying46 (by kernel_rfl) HR1.out.2 hn (by rw [Mt.stCells_size _ _ _ HR1.out.1]; omega))
      have HX := Lib.hid (Mt.stCells_rest (Mt.mid M') R (p.data.toList.take n) c f n HR1.out.1 (by
        have : p.data.toList.length = p.size := rfl
        rw [List.length_take]; omega) (by omega))
      obtain ⟨R', hR'⟩ : ∃ R', R.take f ++ p.data.toList.take n ++ R.drop (f + n) = R' := ⟨_, rfl⟩
      rw [hR', List.append_assoc] at HX
      have HR' := Lib.hid hR'
      have HFULL := Lib.hid hfull
      clear hn hfull hR'
      go_upto_region 2 with (refine wpList_copy_run _ rfl _ _ 46 9 rfl _ _ rfl rfl HCOPY.out ?_)
      have HRL : Hid (R'.length = 64) := Lib.hid (by
        have : p.data.toList.length = p.size := rfl
        rw [← HR'.out]; simp [HR1.out.1, this]; omega)
      refine wp_world (fun u => Only B w u ∧ IsState u B (Mt.mid M') R' c) ⟨Only.setRow HB.out.drew _, HRL.out, ?_⟩ ?_
      · rw [setRow_heap _ _ _ _ _ _ (show wr.drew.heap[B]? = _ from HR1.out.2), HX.out]
      clear HB HCOPY HX HFI
      rintro u1 ⟨hb1, hs1⟩
      have HB1 := Lib.hid hb1
      have hcell := hs1.count
      have hfz : u1.frozen? ⟨B, 72, none⟩ = false := frozen_of_row _ _ _ _ _ hs1.2
      have HS1 := Lib.hid hs1
      clear hb1 hs1
      have hcn : (n : Int) % 18446744073709551616 = n := by have := HLEN.out; omega
      have hcc : ((c : Int) + n) % 18446744073709551616 = ((c + n : Nat) : Int) := by have := HLEN.out; omega
      go_upto_region 4 with fail
      refine wp_world (fun u => Only B w u ∧ IsState u B (Mt.mid M') R' (c + n)) ⟨Only.setCell HB1.out _, HRL.out, ?_⟩ ?_
      · have h := Mt.stCells_set (Mt.mid M') R' c (c + n) HRL.out
        rw [Int.natCast_add] at h
        rw [heap_setCell_same _ _ _ _ _ _ HS1.out.2, h]
      clear HB1 HS1 hcell hfz hcn hcc
      clear u1
      rintro u2 ⟨hb2, hs2⟩
      have HB2 := Lib.hid hb2
      have HS2 := Lib.hid hs2
      have HFI2 := Lib.hid (filled_any B (Mt.mid M') R' (c + n) u2 hs2 (by have := HLEN.out; omega))
      clear hb2 hs2
      have HPL := Lib.hid (show (p.data.toList.take n).length = n by
        have : p.data.toList.length = p.size := rfl
        rw [List.length_take]; omega)
      have HLL := Lib.hid (show (Mt.left M').length = f by rw [Mt.left_length, HC.out, HF.out])
      have HML := Lib.hid (show (M' ++ p.data.toList.take n).length = c + n by rw [List.length_append, HC.out, HPL.out])
      have HEX := Lib.hid (show (M' ++ p.data.toList.take n) ++ (p.extract n p.size).data.toList = M ++ s.data.toList by
        rw [Mt.extract_list, List.append_assoc, List.take_append_drop]; exact HE.out)
      have HTK : Hid (R'.take (f + n) = Mt.left M' ++ p.data.toList.take n) := Lib.hid (by
        have e0 : (R.take f ++ p.data.toList.take n).length = f + n := by rw [List.length_append, List.length_take, HR1.out.1, HPL.out]; omega
        rw [← HR'.out, ← HR2.out, HF.out, List.take_append_of_le_length (by rw [e0]; exact Nat.le_refl _), List.take_of_length_le (by rw [e0]; exact Nat.le_refl _)])
      have HES := Lib.hid (show (p.extract n p.size).size = p.size - n by simp)
      rcases HFULL.out with hfull | ⟨hnp', hfull⟩
      · have h0 : (c + n) % 64 = 0 := by have := HF.out; omega
        have HF1 := Lib.hid hfull
        clear hfull
        rw [h0] at HFI2
        have hmid := Mt.mid_full M' (p.data.toList.take n) (by rw [HLL.out, HPL.out]; have := HF1.out; omega)
        have HMID := Lib.hid hmid
        clear hmid
        have HTU := Lib.hid (fun (u : World) (hu : IsState u B (Mt.mid M') R' (c + n)) (hbu : Only B w u) => turn_any (Mt.mid M') R' B 8 64 u (Mt.hb_ok Mt.V0_ok _ _) (HG.out.only hbu).1 HRL.out (by decide) hu.lt hu.rest)
        go_wp2_with fail
        refine (HFI2.out).mono ?_
        rintro e w' ⟨rfl, rfl⟩
        go_wp2_with fail
        refine wp_region_last (by kernel_rfl) (fun v => ⟨#[.pointer (some ⟨B, 0, none⟩), .string (p.extract n p.size), undef, undef, .int .i64 n, .string p, .int .i64 p.size, .bool true, .pointer (some ⟨B, 0, none⟩), .pointer (some ⟨B, 0, none⟩), .pointer (some ⟨B, 8, none⟩), .pointer (some ⟨B, 0, none⟩), .int .i64 f, .slice (some ⟨B, 8 + f, none⟩) (64 - f) (64 - f), .string p, .int .i64 n, .string p, .int .i64 n, .string (p.extract n p.size), .pointer (some ⟨B, 0, none⟩), .pointer (some ⟨B, 0, none⟩), .pointer (some ⟨B, 72, none⟩), .int .u64 c, .int .i64 n, .int .u64 n, .int .u64 ((c : Int) + n), .pointer (some ⟨B, 0, none⟩), .pointer (some ⟨B, 72, none⟩), .pointer (some ⟨B, 0, none⟩), .int .i64 0, .bool true, v 0, v 1, v 2, v 3, v 4, v 5, v 6, v 7, v 8, v 9, v 10, v 11], []⟩) (fun i x => [Value.pointer (some ⟨B, 0, none⟩), Value.pointer (some ⟨B, 0, none⟩), Value.pointer (some ⟨B, 0, none⟩), Value.pointer (some ⟨B, 0, none⟩), .agg (Mt.mid M').cells, Value.pointer (some ⟨B, 0, none⟩), Value.pointer (some ⟨B, 0, none⟩), Value.pointer (some ⟨B, 8, none⟩), Value.slice (some ⟨B, 8, none⟩) 64 64, .agg (Mt.comp (Mt.mid M') R').cells, Value.pointer (some ⟨B, 0, none⟩), Value.pointer (some ⟨B, 0, none⟩)][i]? = some x)
          (fun u => Only B w u ∧ IsState u B (Mt.mid M') R' (c + n)) (fun u => Only B w u ∧ IsState u B (Mt.comp (Mt.mid M') R') R' (c + n)) (fun i => [u31, u32, u33, u34, u35, u36, u37, u38, u39, u40, u41, u42].getD i undef) u2 (by kernel_rfl) (by kernel_rfl) (by decide) ?hput ?step ?last ⟨HB2.out.drew, HS2.out.1, HS2.out.2⟩ ?fin
        case hput =>
          intro i o ho v x
          match i, ho with
          | 0, ho => obtain rfl := Option.some.inj ho; rfl
          | 1, ho => obtain rfl := Option.some.inj ho; rfl
          | 2, ho => obtain rfl := Option.some.inj ho; rfl
          | 3, ho => obtain rfl := Option.some.inj ho; rfl
          | 4, ho => obtain rfl := Option.some.inj ho; rfl
          | 5, ho => obtain rfl := Option.some.inj ho; rfl
          | 6, ho => obtain rfl := Option.some.inj ho; rfl
          | 7, ho => obtain rfl := Option.some.inj ho; rfl
          | 8, ho => obtain rfl := Option.some.inj ho; rfl
          | 9, ho => obtain rfl := Option.some.inj ho; rfl
          | 10, ho => obtain rfl := Option.some.inj ho; rfl
          | 11, ho => obtain rfl := Option.some.inj ho; rfl
          | 12, ho => obtain rfl := Option.some.inj ho; rfl
          | i + 13, ho => cases ho
        case step =>
          intro i o ho hl v u hw hd
          match i, ho with
          | 0, ho =>
            obtain rfl := Option.some.inj ho
            clear hd ho
            refine wpOp_step rfl (fun K' hK' => ?_)
            go_simp
            exact hK' _ _ ⟨_, rfl, rfl, hw⟩
          | 1, ho =>
            obtain rfl := Option.some.inj ho
            clear hd ho
            refine wpOp_step rfl (fun K' hK' => ?_)
            go_simp
            exact hK' _ _ ⟨_, rfl, rfl, hw⟩
          | 2, ho =>
            obtain rfl := Option.some.inj ho
            have d1 : v 1 = Value.pointer (some ⟨B, 0, none⟩) := (Option.some.inj (hd 1 rfl)).symm
            clear hd ho
            refine wpOp_step rfl (fun K' hK' => ?_)
            go_simp
            exact hK' _ _ ⟨_, (by simp only [d1]; try rfl), rfl, hw⟩
          | 3, ho =>
            obtain rfl := Option.some.inj ho
            have d2 : v 2 = Value.pointer (some ⟨B, 0, none⟩) := (Option.some.inj (hd 2 rfl)).symm
            clear hd ho
            refine wpOp_step rfl (fun K' hK' => ?_)
            go_simp
            exact hK' _ _ ⟨_, (by simp only [d2]; try rfl), rfl, hw⟩
          | 4, ho =>
            obtain rfl := Option.some.inj ho
            have d3 : v 3 = Value.pointer (some ⟨B, 0, none⟩) := (Option.some.inj (hd 3 rfl)).symm
            clear hd ho
            refine wpOp_step rfl (fun K' hK' => ?_)
            refine op_load rfl 57 (.tmp 34) rfl ⟨B, 0, none⟩ (.agg (Mt.mid M').cells) d3 hw.2.words ?_
            exact hK' _ _ ⟨_, rfl, rfl, hw⟩
          | 5, ho =>
            obtain rfl := Option.some.inj ho
            clear hd ho
            refine wpOp_step rfl (fun K' hK' => ?_)
            go_simp
            exact hK' _ _ ⟨_, rfl, rfl, hw⟩
          | 6, ho =>
            obtain rfl := Option.some.inj ho
            have d5 : v 5 = Value.pointer (some ⟨B, 0, none⟩) := (Option.some.inj (hd 5 rfl)).symm
            clear hd ho
            refine wpOp_step rfl (fun K' hK' => ?_)
            go_simp
            exact hK' _ _ ⟨_, (by simp only [d5]; try rfl), rfl, hw⟩
          | 7, ho =>
            obtain rfl := Option.some.inj ho
            have d6 : v 6 = Value.pointer (some ⟨B, 0, none⟩) := (Option.some.inj (hd 6 rfl)).symm
            clear hd ho
            refine wpOp_step rfl (fun K' hK' => ?_)
            go_simp
            exact hK' _ _ ⟨_, (by simp only [d6]; try rfl), rfl, hw⟩
          | 8, ho =>
            obtain rfl := Option.some.inj ho
            have d7 : v 7 = Value.pointer (some ⟨B, 8, none⟩) := (Option.some.inj (hd 7 rfl)).symm
            clear hd ho
            refine wpOp_step rfl (fun K' hK' => ?_)
            go_simp
            exact hK' _ _ ⟨_, (by simp only [d7]; try rfl), rfl, hw⟩
          | 9, ho =>
            obtain rfl := Option.some.inj ho
            have d4 : v 4 = .agg (Mt.mid M').cells := (Option.some.inj (hd 4 rfl)).symm
            have d8 : v 8 = Value.slice (some ⟨B, 8, none⟩) 64 64 := (Option.some.inj (hd 8 rfl)).symm
            clear hd ho
            refine wpOp_step rfl (fun K' hK' => ?_)
            go_simp
            refine (HTU.out u hw.2 hw.1).mono ?_
            rintro e w' ⟨rfl, hb⟩
            exact hK' _ _ ⟨_, (by simp only [d4, d8]; try rfl), rfl, hw.1.then hb, hw.2.below hb hw.2.lt⟩
          | 10, ho =>
            obtain rfl := Option.some.inj ho
            have d0 : v 0 = Value.pointer (some ⟨B, 0, none⟩) := (Option.some.inj (hd 0 rfl)).symm
            clear hd ho
            refine wpOp_step rfl (fun K' hK' => ?_)
            go_simp
            exact hK' _ _ ⟨_, (by simp only [d0]; try rfl), rfl, hw⟩
          | 11, ho =>
            obtain rfl := Option.some.inj ho
            have d10 : v 10 = Value.pointer (some ⟨B, 0, none⟩) := (Option.some.inj (hd 10 rfl)).symm
            clear hd ho
            refine wpOp_step rfl (fun K' hK' => ?_)
            go_simp
            exact hK' _ _ ⟨_, (by simp only [d10]; try rfl), rfl, hw⟩
          | i + 12, ho => exact absurd hl (by simp)
        case last =>
          intro o ho v u hw hd
          obtain rfl := Option.some.inj ho
          have d11 : v 11 = Value.pointer (some ⟨B, 0, none⟩) := (Option.some.inj (hd 11 (by decide))).symm
          have d9 : v 9 = .agg (Mt.comp (Mt.mid M') R').cells := (Option.some.inj (hd 9 (by decide))).symm
          refine wpOp_step rfl (fun K' hK' => op_wanted rfl ?_)
          refine wp_store_at 57 (.tmp 42) (.tmp 40) rfl B 0 (Mt.comp (Mt.mid M') R').cells d11 d9 60 _ hw.2.2 (by rw [Mt.W8.cells_size]; exact Tryd.sz8) (by rw [Mt.W8.cells_size, Mt.stCells_size _ _ _ hw.2.1]; decide) (Mt.cells32_one _) ?_
          refine hK' _ _ ⟨undef, rfl, Only.setRow hw.1 _, hw.2.1, ?_⟩
          rw [setRow_heap _ _ _ _ _ _ hw.2.2, Mt.stCells_words]
        case fin =>
          intro v u hw hall
          have HST2 : Hid (IsSt u B (M' ++ p.data.toList.take n)) := Lib.hid ⟨R', by
            have hR'' : R' = Mt.left M' ++ p.data.toList.take n := by
              have h := HTK.out
              rw [List.take_of_length_le (by rw [HRL.out]; have := HF1.out; omega)] at h
              exact h
            rw [HMID.out.1, HML.out, ← hR'']; exact hw.2, by rw [HML.out, HMID.out.2, h0]; rfl⟩
          have HB3 := Lib.hid hw.1
          clear hall hw
          go_wp2_with fail
          go_roundw
          case rel => exact ⟨_, _, rfl, HEX, HST2, HB3⟩
          case measure => simp only [strLen]; rw [HES.out]; omega
      · have h0 : ¬ ((((c + n) % 64 : Nat) : Int) = 0) := by have := HF.out; omega
        have h1 : ((((c + n) % 64 : Nat) : Int) == 0) = false := by simpa using h0
        have hmid := Mt.mid_append M' (p.data.toList.take n) (by rw [HLL.out, HPL.out]; omega)
        have HMID := Lib.hid hmid
        have HF1 := Lib.hid hfull
        clear hmid hfull hnp'
        have HST2 : Hid (IsSt u2 B (M' ++ p.data.toList.take n)) := Lib.hid ⟨R', by rw [HMID.out.1, HML.out]; exact HS2.out, by
          rw [HML.out, HMID.out.2, show (c + n) % 64 = f + n by have := HF.out; omega]; exact HTK.out⟩
        obtain ⟨q, hq⟩ : ∃ q, (c + n) % 64 = q := ⟨_, rfl⟩
        rw [hq] at HFI2 h1
        clear hq h0
        go_wp2_with fail
        refine (HFI2.out).mono ?_
        rintro e w' ⟨rfl, rfl⟩
        go_wp2_with fail
        go_roundw
        case rel => exact ⟨_, _, rfl, HEX, HST2, HB2⟩
        case measure => simp only [strLen]; rw [HES.out]; omega
    · obtain hp0 : p.size = 0 := by omega
      have hp' : decide ((0 : Int) < (p.size : Int)) = false := decide_eq_false (by omega)
      have HPN := Lib.hid (show p.data.toList = [] from List.eq_nil_of_length_eq_zero hp0)
      go_wp2_with fail
      refine bodyPost_end (results_none rfl _ _ _) rfl ?_
      refine ⟨rfl, ?_, HB.out⟩
      have h := HE.out
      rw [HPN.out, List.append_nil] at h
      rw [← h]
      exact HS.out

end Go.Proofs.YtpdionmecflibaaDoor
