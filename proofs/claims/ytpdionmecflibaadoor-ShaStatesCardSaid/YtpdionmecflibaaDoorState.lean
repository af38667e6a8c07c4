/-
  What New, filled, Len come to; how a state lies in memory.
-/
import Derived.Test.YtpdionmecflibaaDoorApp
namespace Go.Proofs.YtpdionmecflibaaDoor
open Go.RowKit

/-- A state's cells: the words, the bytes that wait, how many bytes came. -/
def Mt.stCells (v : Mt.W8) (R : List UInt8) (c : Nat) : Array Value := ((v.list.map fun (x : Nat) => Value.int .u32 (x : Int)) ++ Mt.cs R ++ [Value.int .u64 (c : Int)]).toArray
theorem Mt.stCells_size (v : Mt.W8) (R : List UInt8) (c : Nat) (hR : R.length = 64) : (Mt.stCells v R c).size = 73 := by
  simp [Mt.stCells, Mt.cs_length, hR, Mt.W8.list]

section
variable {P : Program}
theorem run_loadVar_cells (w : World) (ty : TypeId) (a : Addr) (cs : Array Value) (d : TypeDesc) (hc : ∀ (j : Nat) (v : Value), cs.toList[j]? = some v → w.cell? (a.add j) = some v)
    (hu : P.underlying ty = some d) (hd : (match d with | .struct _ | .array _ _ => true | _ => false) = true) (hi : (P.info? ty).map (·.size) = some cs.size) :
    (loadVar ty a).run P w = .ok (.agg cs) w := by
  have hl : (loadCells a cs.toList.length).run P w = .ok cs.toList.toArray w := run_loadCells_list (P := P) w a cs.toList hc
  cases hq : P.info? ty with
  | none => simp [hq] at hi
  | some i =>
    have hs : i.size = cs.size := by simpa [hq] using hi
    have hagg : (isAgg ty).run P w = .ok true w := by
      unfold isAgg
      rw [Sem.run_bind, run_underlying hu w]
      cases d <;> simp_all
    simp only [Array.length_toList, Array.toArray_toList] at hl
    simp [loadVar, Sem.run_bind, hagg, sizeOf, typeInfo, hq, hs, hl]
theorem wpList_load_run {ops : Array Oper} {rest : List Oper} {o : Oper} {a : Act} {w : World} {Q : Exit → Act → World → Prop} (hgd : o.guard = none) (ty : TypeId) (x : Operand) (ho : o.op = .load ty x)
    (p : Addr) (v : Value) (hx : a.eval x = .pointer (some p)) (hr : (loadVar ty p).run P w = .ok v w)
    (h : wpList P ops Q rest (a.put o.dst v) w) : wpList P ops Q (o :: rest) a w :=
  wpList_plain hgd fun _ hK => by
    unfold Oper.wp execOp
    simp only [ho, hx, Instr.loadAt, Instr.sureAddr, Sem.run_bind, Sem.run_pure, Result.andThen_ok, hr]
    exact hK _ _ h
theorem wpList_build_run {ops : Array Oper} {rest : List Oper} {o : Oper} {a : Act} {w : World} {Q : Exit → Act → World → Prop} (hgd : o.guard = none) (t : TypeId) (parts : Array (Nat × Operand)) (ho : o.op = .build t parts)
    (v : Value) (ps : Array (Nat × Value)) (hp : parts.map (fun (i, x) => (i, a.eval x)) = ps) (hr : (Instr.build t ps).run P w = .ok v w)
    (h : wpList P ops Q rest (a.put o.dst v) w) : wpList P ops Q (o :: rest) a w :=
  wpList_plain hgd fun _ hK => by
    subst hp
    unfold Oper.wp execOp
    simp only [ho, Sem.run_bind, Result.andThen_ok, hr]
    exact hK _ _ h
end

theorem add_off (b off j : Nat) : (⟨b, off, none⟩ : Addr).add j = ⟨b, off + j, none⟩ := by unfold Addr.add; split <;> simp_all

theorem run_load_first (w : World) (h : Laid w) : (loadVar 57 ⟨0, 0, none⟩).run Tryd.prog w = .ok (.agg Mt.V0.cells) w := by
  refine run_loadVar_cells w 57 ⟨0, 0, none⟩ Mt.V0.cells _ (fun j v hv => ?_) Tryd.underlying57 rfl (by rw [Mt.W8.cells_size]; exact Tryd.sz8)
  have hj : j < 8 := by
    rcases Nat.lt_or_ge j 8 with h2 | h2
    · exact h2
    · rw [List.getElem?_eq_none (by rw [Array.length_toList, Mt.W8.cells_size]; exact h2)] at hv; cases hv
  rw [add_off, Nat.zero_add, h.1 j hj, ← hv, Array.getElem?_toList]
  exact (Mt.cells32_get Mt.V0.list j hj).symm

theorem build_new (w : World) : (Instr.build 60 #[(0, .agg Mt.V0.cells)]).run Tryd.prog w = .ok (.agg (Mt.stCells Mt.V0 (List.replicate 64 0) 0)) w := by kernel_rfl

/-- The cells of a state to which nothing was written. -/
def Mt.st0 : Array Value := Mt.stCells Mt.V0 (List.replicate 64 0) 0
theorem build_new0 (w : World) : (Instr.build 60 #[(0, .agg Mt.V0.cells)]).run Tryd.prog w = .ok (.agg Mt.st0) w := build_new w

set_option maxRecDepth 100000 in
theorem new_any (w : World) (h : Laid w) : Calls Tryd.prog 11 #[] w fun e w' => e = .returned (.pointer (some ⟨w.heap.size, 0, none⟩)) ∧ w' = w.alloc (.cells Mt.st0 60) := by
  have HR := Lib.hid (run_load_first w h)
  have HBU := Lib.hid (build_new0 w)
  clear h
  go_enter Tryd.func11, Tryd.ntmps11
  generalize Mt.st0 = sc at HBU ⊢
  go_wp2_with (first | (refine wpList_load_run rfl 57 (.global 0) rfl ⟨0, 0, none⟩ _ rfl HR.out ?_) | (refine wpList_build_run rfl 60 _ rfl (.agg sc) #[(0, .agg Mt.V0.cells)] ?hp HBU.out ?_))
  go_ret
  exact ⟨rfl, rfl⟩

/-- A state lies in a block. -/
def IsState (w : World) (B : Nat) (v : Mt.W8) (R : List UInt8) (c : Nat) : Prop := R.length = 64 ∧ w.heap[B]? = some (.cells (Mt.stCells v R c) 60 (0, 0))

theorem IsState.lt {w : World} {B : Nat} {v : Mt.W8} {R : List UInt8} {c : Nat} (h : IsState w B v R c) : B < w.heap.size := by
  rcases Nat.lt_or_ge B w.heap.size with h2 | h2
  · exact h2
  · have h3 := h.2; rw [Array.getElem?_eq_none h2] at h3; cases h3
theorem IsState.count {w : World} {B : Nat} {v : Mt.W8} {R : List UInt8} {c : Nat} (h : IsState w B v R c) : w.cell? ⟨B, 72, none⟩ = some (.int .u64 (c : Int)) := by
  rw [cell_of_row _ _ _ _ _ _ h.2]
  have e : (Mt.stCells v R c)[72]? = ((v.list.map fun (x : Nat) => Value.int .u32 (x : Int)) ++ Mt.cs R ++ [Value.int .u64 (c : Int)])[72]? := by simp [Mt.stCells]
  rw [e, List.getElem?_append_right (by simp [Mt.cs_length, h.1, Mt.W8.list])]
  simp [Mt.cs_length, h.1, Mt.W8.list]
theorem IsState.rest {w : World} {B : Nat} {v : Mt.W8} {R : List UInt8} {c : Nat} (h : IsState w B v R c) (i : Nat) (hi : i < 64) : w.cell? ⟨B, 8 + i, none⟩ = some (.int .u8 ((R.getD i 0).toNat : Int)) := by
  rw [cell_of_row _ _ _ _ _ _ h.2]
  have e : (Mt.stCells v R c)[8 + i]? = ((v.list.map fun (x : Nat) => Value.int .u32 (x : Int)) ++ (Mt.cs R ++ [Value.int .u64 (c : Int)]))[8 + i]? := by simp [Mt.stCells]
  rw [e, List.getElem?_append_right (by simp [Mt.W8.list])]
  have e2 : 8 + i - (v.list.map fun (x : Nat) => Value.int .u32 (x : Int)).length = i := by simp [Mt.W8.list]
  rw [e2, List.getElem?_append_left (by rw [Mt.cs_length, h.1]; exact hi)]
  have hl : i < R.length := by rw [h.1]; exact hi
  simp [Mt.cs, List.getD, List.getElem?_eq_getElem hl]
theorem IsState.words {w : World} {B : Nat} {v : Mt.W8} {R : List UInt8} {c : Nat} (h : IsState w B v R c) : (loadVar 57 ⟨B, 0, none⟩).run Tryd.prog w = .ok (.agg v.cells) w := by
  refine run_loadVar_cells w 57 ⟨B, 0, none⟩ v.cells _ (fun j x hv => ?_) Tryd.underlying57 rfl (by rw [Mt.W8.cells_size]; exact Tryd.sz8)
  have hj : j < 8 := by
    rcases Nat.lt_or_ge j 8 with h2 | h2
    · exact h2
    · rw [List.getElem?_eq_none (by rw [Array.length_toList, Mt.W8.cells_size]; exact h2)] at hv; cases hv
  rw [add_off, Nat.zero_add, cell_of_row _ _ _ _ _ _ h.2, ← hv, Array.getElem?_toList]
  have e : (Mt.stCells v R c)[j]? = ((v.list.map fun (x : Nat) => Value.int .u32 (x : Int)) ++ (Mt.cs R ++ [Value.int .u64 (c : Int)]))[j]? := by simp [Mt.stCells]
  rw [e, List.getElem?_append_left (by simpa [Mt.W8.list] using hj)]
  simp [Mt.W8.cells, Mt.cells32]
theorem IsState.below {w u : World} {B D : Nat} {v : Mt.W8} {R : List UInt8} {c : Nat} (h : IsState w B v R c) (hb : Below D w u) (hD : B < D) : IsState u B v R c :=
  ⟨h.1, by rw [hb.block _ hD]; exact h.2⟩

theorem filled_any (B : Nat) (v : Mt.W8) (R : List UInt8) (c : Nat) (w : World) (h : IsState w B v R c) (hc : c < 1152921504606846976) :
    Calls Tryd.prog 36 #[.pointer (some ⟨B, 0, none⟩)] w fun e w' => e = .returned (.int .i64 ((c % 64 : Nat) : Int)) ∧ w = w' := by
  have hcell := h.count
  have hmod : ((c % 64 : Nat) : Int) = (c : Int) % 64 := by omega
  clear h
  go_enter Tryd.func36, Tryd.ntmps36
  go_wp2
  go_ret
  exact ⟨Mt.ret_int (by omega), rfl⟩

theorem len_any (B : Nat) (v : Mt.W8) (R : List UInt8) (c : Nat) (w : World) (h : IsState w B v R c) :
    Calls Tryd.prog 13 #[.pointer (some ⟨B, 0, none⟩)] w fun e w' => e = .returned (.int .u64 (c : Int)) ∧ w = w' := by
  have hcell := h.count
  clear h
  go_enter Tryd.func13, Tryd.ntmps13
  go_wp2
  go_ret
  exact ⟨rfl, rfl⟩

theorem len_nil (w : World) : Calls Tryd.prog 13 #[.pointer none] w fun e w' => e = .returned (.int .u64 0) ∧ w = w' := by
  go_enter Tryd.func13, Tryd.ntmps13
  go_wp2
  go_ret
  exact ⟨rfl, rfl⟩

end Go.Proofs.YtpdionmecflibaaDoor
