/-
  Some texts of one proof, one behind the other.
-/
import Derived.Laws.IdiomStrings
import Derived.Test.YtnioagojiipjlaaGreatPk9
set_option linter.unusedVariables false
set_option linter.unusedSimpArgs false

/-
  Rules of the walk for sectors: a new one, one written whole, one read out of the row, what waits looked up; what Read comes to.
-/
namespace Go.Proofs.YtnioagojiipjlaaGreat
open Go.RowKit Go.Maps

/-- A sector's cells. -/
def secCells (L : List UInt8) : Array Value := (Mt.cs L).toArray
theorem secCells_size (L : List UInt8) : (secCells L).size = L.length := by simp [secCells, Mt.cs_length]
theorem secV_eq (L : List UInt8) : secV L = .agg (secCells L) := rfl

section
variable {ops : Array Oper} {rest : List Oper} {o : Oper} {a : Act} {w : World} {Q : Exit → Act → World → Prop} {B bl bm : Nat} {d : Mt.Dk}

theorem run_alloc_sec (w : World) : (Instr.alloc 72 true (.tuple #[])).run Tryz.prog w = .ok (.pointer (some ⟨w.heap.size, 0, none⟩)) (w.alloc (.cells (secCells Mt.blank) 72)) := by kernel_rfl
theorem wpList_alloc_sec (hgd : o.guard = none) (ho : o.op = .alloc 72) (h : wpList Tryz.prog ops Q rest (a.put o.dst (.pointer (some ⟨w.heap.size, 0, none⟩))) (w.alloc (.cells (secCells Mt.blank) 72))) : wpList Tryz.prog ops Q (o :: rest) a w :=
  wpList_plain hgd fun _ hK => by
    unfold Oper.wp execOp
    simp only [ho, Sem.run_bind, Result.andThen_ok, run_alloc_sec]
    exact hK _ _ h

theorem run_store_sec (w : World) (g : Nat) (old : Array Value) (L : List UInt8) (hL : L.length = 128) (hg : w.heap[g]? = some (.cells old 72 (0, 0))) (hs : old.size = 128) :
    (storeVar 72 ⟨g, 0, none⟩ (secV L)).run Tryz.prog w = .ok () (w.setRow g (secCells L)) := by
  have hst := run_storeCells_at Tryz.prog g 0 72 (secCells L).toList 0 old w hg (by rw [Array.length_toList, secCells_size]; omega) (fun v hv => Mt.cs_one L v (by simpa [secCells] using hv))
  simp only [Nat.add_zero, Array.length_toList, secCells_size, Nat.zero_add] at hst
  rw [List.take_zero, List.nil_append, List.drop_of_length_le (by rw [Array.length_toList]; omega), List.append_nil, Array.toArray_toList] at hst
  have hi := Tryz.szSec
  cases hq : Tryz.prog.info? 72 with
  | none => simp [hq] at hi
  | some i =>
    have hs2 : i.size = 128 := by simpa [hq] using hi
    simp [storeVar, sizeOf, typeInfo, hq, secV, Value.cells, hs2, hL, Mt.cs_length]
    simpa [secCells] using hst
theorem setRow_alloc (w : World) (cs ds : Array Value) (t : TypeId) : (w.alloc (.cells cs t)).setRow w.heap.size ds = w.alloc (.cells ds t) := by
  unfold World.setRow World.alloc
  congr 1
  apply Array.ext
  · simp
  · intro i h1 h2
    rw [Array.getElem_modify]
    have h3 : i < w.heap.size + 1 := by simpa using h2
    split
    · rename_i hi
      subst hi
      simp
    · rename_i hi
      have h4 : i < w.heap.size := by omega
      simp [Array.getElem_push_lt h4]
/-- A sector is written whole into a block of its own. -/
theorem wpList_store_sec (hgd : o.guard = none) (x y : Operand) (ho : o.op = .store 72 x y) (g : Nat) (old : Array Value) (L : List UInt8) (hx : a.eval x = .pointer (some ⟨g, 0, none⟩)) (hy : a.eval y = secV L)
    (hL : L.length = 128) (hg : w.heap[g]? = some (.cells old 72 (0, 0))) (hs : old.size = 128)
    (h : wpList Tryz.prog ops Q rest (a.put o.dst undef) (w.setRow g (secCells L))) : wpList Tryz.prog ops Q (o :: rest) a w :=
  wpList_plain hgd fun _ hK => by
    unfold Oper.wp execOp
    simp only [ho, hx, hy, Instr.storeAt, Instr.sureAddr, Sem.run_bind, Sem.run_pure, Result.andThen_ok, run_store_sec w g old L hL hg hs]
    exact hK _ _ h

theorem run_load_sec (w : World) (g of : Nat) (L : List UInt8) (hL : L.length = 128) (hc : ∀ j, j < 128 → w.cell? ⟨g, of + j, none⟩ = some (.int .u8 ((L.getD j 0).toNat : Int))) : (loadVar 72 ⟨g, of, none⟩).run Tryz.prog w = .ok (secV L) w := by
  refine run_loadVar_cells w 72 ⟨g, of, none⟩ (secCells L) _ (fun j v hv => ?_) Tryz.underlying72 rfl (by rw [secCells_size, hL]; exact Tryz.szSec)
  have hv' : (Mt.cs L)[j]? = some v := by simpa [secCells] using hv
  obtain ⟨hj, rfl⟩ := Mt.cs_getD L j v hv'
  rw [add_off]
  exact hc j (by omega)
theorem load_own (w : World) (g : Nat) (L : List UInt8) (hL : L.length = 128) (hg : w.heap[g]? = some (.cells (secCells L) 72 (0, 0))) : (loadVar 72 ⟨g, 0, none⟩).run Tryz.prog w = .ok (secV L) w := by
  refine run_load_sec w g 0 L hL fun j hj => ?_
  rw [cell_of_row _ _ _ _ _ _ hg, Nat.zero_add]
  simp [secCells, Mt.cs, List.getD, List.getElem?_eq_getElem (show j < L.length by omega)]
theorem IsDisk.load (h : IsDisk w B bl bm d) (i : Nat) (hi : i < d.lasts.length) : (loadVar 72 ⟨bl, i * 128, none⟩).run Tryz.prog w = .ok (secV (d.lasts.getD i [])) w := by
  rw [Nat.mul_comm i 128]
  have e : d.lasts.getD i [] = d.lasts[i] := by simp [List.getD, List.getElem?_eq_getElem hi]
  rw [e]
  refine run_load_sec w bl _ _ (h.ok.lasts i hi) fun j hj => ?_
  rw [cell_of_row _ _ _ _ _ _ h.secs]
  exact flat_get d.lasts h.ok.lasts i j hi hj

/-- What waits, looked up. -/
theorem IsDisk.look (h : IsDisk w B bl bm d) (i : Nat) (hi : i < d.lasts.length) : (Instr.lookup 62 (.map (some bm)) (.int .i64 (i : Int)) true).run Tryz.prog w = .ok (.tuple #[secV ((d.waits.getD i none).getD Mt.blank), .bool (d.waits.getD i none).isSome]) w := by
  obtain ⟨D, hD, hW⟩ := h.waits
  have hm := h.ok.most
  have hkey : keyOf Tryz.prog 3 (.int .i64 (i : Int)) = some (.int .i64 (i : Int)) := keyOf_int_mk Tryz.underlying3 (WalkArith.wf_i64 (by omega))
  obtain ⟨v, ps, hrun, hv⟩ := hD.look_ok keyLaw Tryz.underlying62 (zeroSec w) (secElem_mk Mt.blank Mt.blank_length) hkey
  obtain ⟨L, hL, rfl, hz⟩ := secElem_inv hv
  rw [hrun]
  have hat : D.atKey (.int .i64 (i : Int)) (.lit (.string Mt.blank)) = .lit (.string L) := congrArg Prod.fst hz
  have hl : i < d.waits.length := by rw [h.ok.len]; exact hi
  have e : d.waits.getD i none = d.waits[i] := by simp [List.getD, List.getElem?_eq_getElem hl]
  rw [e]
  cases hx : d.waits[i] with
  | none =>
    have hn : Maps.has D (.int .i64 (i : Int)) = false := by
      cases hb : Maps.has D (.int .i64 (i : Int)) with
      | false => rfl
      | true =>
        obtain ⟨_, b, hb2⟩ := (hW.has i).1 hb
        rw [Int.toNat_natCast, List.getElem?_eq_getElem hl, hx] at hb2
        cases hb2
    rw [Maps.atKey_of_not_has hn] at hat
    have : Mt.blank = L := by simpa using hat
    rw [hn, ← this]; rfl
  | some b =>
    have hb2 : d.waits[i]? = some (some b) := by rw [List.getElem?_eq_getElem hl, hx]
    have hh : Maps.has D (.int .i64 (i : Int)) = true := (hW.has i).2 ⟨by omega, b, by rw [Int.toNat_natCast]; exact hb2⟩
    rw [hW.at' i b _ hb2] at hat
    have : b = L := by simpa using hat
    rw [hh, ← this]; rfl
theorem wpList_val_run (hgd : o.guard = none) (v : Value) (u : World) (hr : (execOp a.eval o).run Tryz.prog w = .ok (.value v) u) (h : wpList Tryz.prog ops Q rest (a.put o.dst v) u) : wpList Tryz.prog ops Q (o :: rest) a w :=
  wpList_plain hgd fun _ hK => by
    unfold Oper.wp
    rw [hr]
    exact hK _ _ h
/-- A sector as a text. -/
theorem conv_sec (w : World) (g cap : Nat) (L : List UInt8) (t : TypeId) (hL : L.length = 128) (hg : w.heap[g]? = some (.cells (secCells L) t (0, 0))) : (convert 73 9 (.slice (some ⟨g, 0, none⟩) 128 cap)).run Tryz.prog w = .ok (.string (Mt.str L)) w := by
  have h := run_convert_bytes_back (P := Tryz.prog) w 73 9 5 ⟨g, 0, none⟩ cap L Tryz.underlying73 Tryz.underlying5 Tryz.underlying9 (fun j hj => by
    rw [add_off, cell_of_row _ _ _ _ _ _ hg, Nat.zero_add]
    simp [secCells, Mt.cs, List.getElem?_eq_getElem hj])
  rw [hL] at h
  exact h

theorem Mt.read_no (d : Mt.Dk) (i : Int) (h : d.ask i ≠ 0) : d.read i = ([], d.ask i) := by unfold Mt.Dk.read; rw [if_neg h]
theorem Mt.read_yes (d : Mt.Dk) (i : Int) (h : d.ask i = 0) : d.read i = ((d.waits.getD i.toNat none).getD (d.lasts.getD i.toNat []), 0) := by unfold Mt.Dk.read; rw [if_pos h]
theorem Mt.ask_yes {d : Mt.Dk} {i : Int} (h : d.ask i = 0) : d.off = false ∧ 0 ≤ i ∧ i < d.lasts.length := by
  unfold Mt.Dk.ask at h
  split at h
  · cases h
  · rename_i h1
    split at h
    · cases h
    · exact ⟨by simpa using h1, by omega, by omega⟩

theorem read_nil (i : Int) (w : World) : Calls Tryz.prog 62 #[.pointer none, .int .i64 i] w fun e w' => e = .returned (.tuple #[.string ByteArray.empty, .int .i64 1]) ∧ w = w' := by
  have HA := Lib.hid (ask_nil i w)
  go_enter Tryz.func62, Tryz.ntmps62
  go_wp2_with fail
  refine (HA.out).mono ?_
  rintro e w' ⟨rfl, rfl⟩
  go_wp2_with fail
  go_ret2
  exact ⟨rfl, rfl⟩
set_option maxRecDepth 100000 in
theorem read_any (h : IsDisk w B bl bm d) (i : Int) : Calls Tryz.prog 62 #[.pointer (some ⟨B, 0, none⟩), .int .i64 i] w fun e w' => e = .returned (.tuple #[.string (Mt.str (d.read i).1), .int .i64 (d.read i).2]) ∧ Below w.heap.size w w' := by
  have HA := Lib.hid (ask_any h i)
  by_cases h0 : d.ask i = 0
  · rw [Mt.read_yes d i h0]
    rw [h0] at HA
    obtain ⟨h1, h2, h3⟩ := Mt.ask_yes h0
    obtain ⟨k, rfl⟩ : ∃ k : Nat, i = k := ⟨i.toNat, by omega⟩
    have hk : k < d.lasts.length := by omega
    have hm := h.ok.most
    have hlt := h.ltB
    have hki : (k : Int) < (d.lasts.length : Int) := by omega
    have hc0 := h.c0
    have hc1 := h.c1
    have HL := Lib.hid (h.look k hk)
    have HLD := Lib.hid (fun o => (h.alloc o).load k hk)
    rw [Int.toNat_natCast]
    clear h0 h1 h2 h3
    have hZ : (secCells Mt.blank).size = 128 := by rw [secCells_size]; exact Mt.blank_length
    have HZ := Lib.hid hZ
    have HLL : Hid ((d.lasts.getD k []).length = 128) := Lib.hid (by
      have e : d.lasts.getD k [] = d.lasts[k] := by simp [List.getD, List.getElem?_eq_getElem hk]
      rw [e]; exact h.ok.lasts k hk)
    have HWW : Hid (((d.waits.getD k none).getD Mt.blank).length = 128) := Lib.hid (by
      cases hx : d.waits.getD k none with
      | none => exact Mt.blank_length
      | some b =>
        refine h.ok.waits k b ?_
        have hl : k < d.waits.length := by rw [h.ok.len]; exact hk
        rw [List.getElem?_eq_getElem hl]
        simpa [List.getD, List.getElem?_eq_getElem hl] using hx)
    have HCV := Lib.hid (fun (u : World) L hL => conv_sec u w.heap.size 128 L 72 hL)
    clear hZ h
    obtain ⟨W, hW⟩ : ∃ W, d.waits.getD k none = W := ⟨_, rfl⟩
    obtain ⟨L, hL⟩ : ∃ L, d.lasts.getD k [] = L := ⟨_, rfl⟩
    rw [hW] at HL HWW ⊢
    rw [hL] at HLL HLD ⊢
    clear hW hL
    obtain ⟨V, hV⟩ : ∃ V, W.getD Mt.blank = V := ⟨_, rfl⟩
    have HV := Lib.hid hV
    rw [hV] at HL HWW
    clear hV
    generalize d.lasts.length = n at *
    have hl := HL.out
    clear HL
    generalize hZ : secCells Mt.blank = Z at HZ
    have hld := HLD.out (.cells (secCells V) 72)
    clear HLD
    have hcv := HCV.out (w.alloc (.cells (secCells L) 72)) L HLL.out (heap_alloc_new _ _)
    have hcv2 := HCV.out (w.alloc (.cells (secCells V) 72)) V HWW.out (heap_alloc_new _ _)
    clear HCV
    cases W with
    | none =>
      go_enter Tryz.func62, Tryz.ntmps62
      go_wp2_with fail
      refine (HA.out).mono ?_
      rintro e w' ⟨rfl, rfl⟩
      go_wp2_with (first | (refine wpList_alloc_sec rfl rfl ?_; rw [hZ]) | (refine wpList_store_sec rfl _ _ rfl w.heap.size _ _ rfl rfl (by first | exact HWW.out | exact HLL.out) (heap_alloc_new _ _) (by first | exact HZ.out | (rw [secCells_size]; exact HWW.out)) ?_; rw [setRow_alloc]) | (refine wpList_load_run rfl 72 _ rfl _ _ rfl hld ?_))
      go_ret2
      exact ⟨rfl, (Below.refl _ _).alloc (Nat.le_refl _) _⟩
    | some b =>
      have hb : b = V := HV.out
      have HB := Lib.hid hb
      clear hb HV
      go_enter Tryz.func62, Tryz.ntmps62
      go_wp2_with fail
      refine (HA.out).mono ?_
      rintro e w' ⟨rfl, rfl⟩
      go_wp2_with (first | (refine wpList_alloc_sec rfl rfl ?_; rw [hZ]) | (refine wpList_store_sec rfl _ _ rfl w.heap.size _ _ rfl rfl HWW.out (heap_alloc_new _ _) HZ.out ?_; rw [setRow_alloc]))
      go_ret2
      refine ⟨?_, (Below.refl _ _).alloc (Nat.le_refl _) _⟩
      rw [show (some b).getD L = b from rfl, HB.out]
      rfl
  · rw [Mt.read_no d i h0]
    obtain ⟨r, hr⟩ : ∃ r, d.ask i = r := ⟨_, rfl⟩
    rw [hr] at HA h0 ⊢
    have hne : (r == 0) = false := by simpa using h0
    have hne2 : (r != 0) = true := by simpa using h0
    clear hr h
    go_enter Tryz.func62, Tryz.ntmps62
    go_wp2_with fail
    refine (HA.out).mono ?_
    rintro e w' ⟨rfl, rfl⟩
    go_wp2_with fail
    go_ret2
    exact ⟨rfl, Below.refl _ _⟩
end
end Go.Proofs.YtnioagojiipjlaaGreat
