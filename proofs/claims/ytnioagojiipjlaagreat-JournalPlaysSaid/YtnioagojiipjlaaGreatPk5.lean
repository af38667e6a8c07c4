/-
  Some texts of one proof, one behind the other.
-/
import Derived.Laws.IdiomStrings
import Derived.Shelf.SlIterI.Nil
import Derived.Shelf.SortM.Plain
import Derived.Shelf.SortM.SortNone
import Derived.Ground.GgzProg
import Derived.Ground.SlgmProg
import Derived.Test.YtnioagojiipjlaaGreatProg
import Derived.Test.YtnioagojiipjlaaGreatPk4

/-
  Rules of the walk for sectors: a new one, one written whole, one read out of the row, what waits looked up; what Read comes to.
-/
namespace Go.Proofs.YtnioagojiipjlaaGreat
open Go.RowKit Go.Maps

/-- A sector's cells. -/
def secCells (L : List UInt8) : Array Value := (Mt.cs L).toArray
theorem secCells_size (L : List UInt8) : (secCells L).size = L.length := by simp [secCells, Mt.cs_length]
theorem secV_eq (L : List UInt8) : secV L = .agg (secCells L) := rfl

section
variable {ops : Array Oper} {rest : List Oper} {o : Oper} {a : Act} {w : World} {Q : Exit → Act → World → Prop} {B bl bm : Nat} {d : Mt.Dk}

theorem run_alloc_sec (w : World) : (Instr.alloc 72 true (.tuple #[])).run Tryz.prog w = .ok (.pointer (some ⟨w.heap.size, 0, none⟩)) (w.alloc (.cells (secCells Mt.blank) 72)) := by kernel_rfl
theorem wpList_alloc_sec (hgd : o.guard = none) (ho : o.op = .alloc 72) (h : wpList Tryz.prog ops Q rest (a.put o.dst (.pointer (some ⟨w.heap.size, 0, none⟩))) (w.alloc (.cells (secCells Mt.blank) 72))) : wpList Tryz.prog ops Q (o :: rest) a w :=
  wpList_plain hgd fun _ hK => by
    unfold Oper.wp execOp
    simp only [ho, Sem.run_bind, Result.andThen_ok, run_alloc_sec]
    exact hK _ _ h

theorem run_store_sec (w : World) (g : Nat) (old : Array Value) (L : List UInt8) (hL : L.length = 128) (hg : w.heap[g]? = some (.cells old 72 (0, 0))) (hs : old.size = 128) :
    (storeVar 72 ⟨g, 0, none⟩ (secV L)).run Tryz.prog w = .ok () (w.setRow g (secCells L)) := by
  have hst := run_storeCells_at Tryz.prog g 0 72 (secCells L).toList 0 old w hg (by rw [Array.length_toList, secCells_size]; omega) (fun v hv => Mt.cs_one L v (by simpa [secCells] using hv))
  simp only [Nat.add_zero, Array.length_toList, secCells_size, Nat.zero_add] at hst
  rw [List.take_zero, List.nil_append, List.drop_of_length_le (by rw [Array.length_toList]; omega), List.append_nil, Array.toArray_toList] at hst
  have hi := Tryz.szSec
  cases hq : Tryz.prog.info? 72 with
  | none => simp [hq] at hi
  | some i =>
    have hs2 : i.size = 128 := by simpa [hq] using hi
    simp [storeVar, sizeOf, typeInfo, hq, secV, Value.cells, hs2, hL, Mt.cs_length]
    simpa [secCells] using hst
theorem setRow_alloc (w : World) (cs ds : Array Value) (t : TypeId) : (w.alloc (.cells cs t)).setRow w.heap.size ds = w.alloc (.cells ds t) := by
  unfold World.setRow World.alloc
  congr 1
  apply Array.ext
  · simp
  · intro i h1 h2
    rw [Array.getElem_modify]
    have h3 : i < w.heap.size + 1 := by simpa using h2
    split
    · rename_i hi
      subst hi
      simp
    · rename_i hi
      have h4 : i < w.heap.size := by omega
      simp [Array.getElem_push_lt h4]
/-- A sector is written whole into a block of its own. -/
theorem wpList_store_sec (hgd : o.guard = none) (x y : Operand) (ho : o.op = .store 72 x y) (g : Nat) (old : Array Value) (L : List UInt8) (hx : a.eval x = .pointer (some ⟨g, 0, none⟩)) (hy : a.eval y = secV L)
    (hL : L.length = 128) (hg : w.heap[g]? = some (.cells old 72 (0, 0))) (hs : old.size = 128)
    (h : wpList Tryz.prog ops Q rest (a.put o.dst undef) (w.setRow g (secCells L))) : wpList Tryz.prog ops Q (o :: rest) a w :=
  wpList_plain hgd fun _ hK => by
    unfold Oper.wp execOp
    simp only [ho, hx, hy, Instr.storeAt, Instr.sureAddr, Sem.run_bind, Sem.run_pure, Result.andThen_ok, run_store_sec w g old L hL hg hs]
    exact hK _ _ h

theorem run_load_sec (w : World) (g of : Nat) (L : List UInt8) (hL : L.length = 128) (hc : ∀ j, j < 128 → w.cell? ⟨g, of + j, none⟩ = some (.int .u8 ((L.getD j 0).toNat : Int))) : (loadVar 72 ⟨g, of, none⟩).run Tryz.prog w = .ok (secV L) w := by
  refine run_loadVar_cells w 72 ⟨g, of, none⟩ (secCells L) _ (fun j v hv => ?_) Tryz.underlying72 rfl (by rw [secCells_size, hL]; exact Tryz.szSec)
  have hv' : (Mt.cs L)[j]? = some v := by simpa [secCells] using hv
  obtain ⟨hj, rfl⟩ := Mt.cs_getD L j v hv'
  rw [add_off]
  exact hc j (by omega)
theorem load_own (w : World) (g : Nat) (L : List UInt8) (hL : L.length = 128) (hg : w.heap[g]? = some (.cells (secCells L) 72 (0, 0))) : (loadVar 72 ⟨g, 0, none⟩).run Tryz.prog w = .ok (secV L) w := by
  refine run_load_sec w g 0 L hL fun j hj => ?_
  rw [cell_of_row _ _ _ _ _ _ hg, Nat.zero_add]
  simp [secCells, Mt.cs, List.getD, List.getElem?_eq_getElem (show j < L.length by omega)]
theorem IsDisk.load (h : IsDisk w B bl bm d) (i : Nat) (hi : i < d.lasts.length) : (loadVar 72 ⟨bl, i * 128, none⟩).run Tryz.prog w = .ok (secV (d.lasts.getD i [])) w := by
  rw [Nat.mul_comm i 128]
  have e : d.lasts.getD i [] = d.lasts[i] := by simp [List.getD, List.getElem?_eq_getElem hi]
  rw [e]
  refine run_load_sec w bl _ _ (h.ok.lasts i hi) fun j hj => ?_
  rw [cell_of_row _ _ _ _ _ _ h.secs]
  exact flat_get d.lasts h.ok.lasts i j hi hj

/-- What waits, looked up. -/
theorem IsDisk.look (h : IsDisk w B bl bm d) (i : Nat) (hi : i < d.lasts.length) : (Instr.lookup 62 (.map (some bm)) (.int .i64 (i : Int)) true).run Tryz.prog w = .ok (.tuple #[secV ((d.waits.getD i none).getD Mt.blank), .bool (d.waits.getD i none).isSome]) w := by
  obtain ⟨D, hD, hW⟩ := h.waits
  have hm := h.ok.most
  have hkey : keyOf Tryz.prog 3 (.int .i64 (i : Int)) = some (.int .i64 (i : Int)) := keyOf_int_mk Tryz.underlying3 (WalkArith.wf_i64 (by omega))
  obtain ⟨v, ps, hrun, hv⟩ := hD.look_ok keyLaw Tryz.underlying62 (zeroSec w) (secElem_mk Mt.blank Mt.blank_length) hkey
  obtain ⟨L, hL, rfl, hz⟩ := secElem_inv hv
  rw [hrun]
  have hat : D.atKey (.int .i64 (i : Int)) (.lit (.string Mt.blank)) = .lit (.string L) := congrArg Prod.fst hz
  have hl : i < d.waits.length := by rw [h.ok.len]; exact hi
  have e : d.waits.getD i none = d.waits[i] := by simp [List.getD, List.getElem?_eq_getElem hl]
  rw [e]
  cases hx : d.waits[i] with
  | none =>
    have hn : Maps.has D (.int .i64 (i : Int)) = false := by
      cases hb : Maps.has D (.int .i64 (i : Int)) with
      | false => rfl
      | true =>
        obtain ⟨_, b, hb2⟩ := (hW.has i).1 hb
        rw [Int.toNat_natCast, List.getElem?_eq_getElem hl, hx] at hb2
        cases hb2
    rw [Maps.atKey_of_not_has hn] at hat
    have : Mt.blank = L := by simpa using hat
    rw [hn, ← this]; rfl
  | some b =>
    have hb2 : d.waits[i]? = some (some b) := by rw [List.getElem?_eq_getElem hl, hx]
    have hh : Maps.has D (.int .i64 (i : Int)) = true := (hW.has i).2 ⟨by omega, b, by rw [Int.toNat_natCast]; exact hb2⟩
    rw [hW.at' i b _ hb2] at hat
    have : b = L := by simpa using hat
    rw [hh, ← this]; rfl
theorem wpList_val_run (hgd : o.guard = none) (v : Value) (u : World) (hr : (execOp a.eval o).run Tryz.prog w = .ok (.value v) u) (h : wpList Tryz.prog ops Q rest (a.put o.dst v) u) : wpList Tryz.prog ops Q (o :: rest) a w :=
  wpList_plain hgd fun _ hK => by
    unfold Oper.wp
    rw [hr]
    exact hK _ _ h
/-- A sector as a text. -/
theorem conv_sec (w : World) (g cap : Nat) (L : List UInt8) (t : TypeId) (hL : L.length = 128) (hg : w.heap[g]? = some (.cells (secCells L) t (0, 0))) : (convert 73 9 (.slice (some ⟨g, 0, none⟩) 128 cap)).run Tryz.prog w = .ok (.string (Mt.str L)) w := by
  have h := run_convert_bytes_back (P := Tryz.prog) w 73 9 5 ⟨g, 0, none⟩ cap L Tryz.underlying73 Tryz.underlying5 Tryz.underlying9 (fun j hj => by
    rw [add_off, cell_of_row _ _ _ _ _ _ hg, Nat.zero_add]
    simp [secCells, Mt.cs, List.getElem?_eq_getElem hj])
  rw [hL] at h
  exact h

theorem Mt.read_no (d : Mt.Dk) (i : Int) (h : d.ask i ≠ 0) : d.read i = ([], d.ask i) := by unfold Mt.Dk.read; rw [if_neg h]
theorem Mt.read_yes (d : Mt.Dk) (i : Int) (h : d.ask i = 0) : d.read i = ((d.waits.getD i.toNat none).getD (d.lasts.getD i.toNat []), 0) := by unfold Mt.Dk.read; rw [if_pos h]
theorem Mt.ask_yes {d : Mt.Dk} {i : Int} (h : d.ask i = 0) : d.off = false ∧ 0 ≤ i ∧ i < d.lasts.length := by
  unfold Mt.Dk.ask at h
  split at h
  · cases h
  · rename_i h1
    split at h
    · cases h
    · exact ⟨by simpa using h1, by omega, by omega⟩

theorem read_nil (i : Int) (w : World) : Calls Tryz.prog 62 #[.pointer none, .int .i64 i] w fun e w' => e = .returned (.tuple #[.string ByteArray.empty, .int .i64 1]) ∧ w = w' := by
  have HA := Lib.hid (ask_nil i w)
  go_enter Tryz.func62, Tryz.ntmps62
  go_wp2_with fail
  refine (HA.out).mono ?_
  rintro e w' ⟨rfl, rfl⟩
  go_wp2_with fail
  go_ret2
  exact ⟨rfl, rfl⟩
set_option maxRecDepth 100000 in
theorem read_any (h : IsDisk w B bl bm d) (i : Int) : Calls Tryz.prog 62 #[.pointer (some ⟨B, 0, none⟩), .int .i64 i] w fun e w' => e = .returned (.tuple #[.string (Mt.str (d.read i).1), .int .i64 (d.read i).2]) ∧ Below w.heap.size w w' := by
  have HA := Lib.hid (ask_any h i)
  by_cases h0 : d.ask i = 0
  · rw [Mt.read_yes d i h0]
    rw [h0] at HA
    obtain ⟨h1, h2, h3⟩ := Mt.ask_yes h0
    obtain ⟨k, rfl⟩ : ∃ k : Nat, i = k := ⟨i.toNat, by omega⟩
    have hk : k < d.lasts.length := by omega
    have hm := h.ok.most
    have hlt := h.ltB
    have hki : (k : Int) < (d.lasts.length : Int) := by omega
    have hc0 := h.c0
    have hc1 := h.c1
    have HL := Lib.hid (h.look k hk)
    have HLD := Lib.hid (fun o => (h.alloc o).load k hk)
    rw [Int.toNat_natCast]
    clear h0 h1 h2 h3
    have hZ : (secCells Mt.blank).size = 128 := by rw [secCells_size]; exact Mt.blank_length
    have HZ := Lib.hid hZ
    have HLL : Hid ((d.lasts.getD k []).length = 128) := Lib.hid (by
      have e : d.lasts.getD k [] = d.lasts[k] := by simp [List.getD, List.getElem?_eq_getElem hk]
      rw [e]; exact h.ok.lasts k hk)
    have HWW : Hid (((d.waits.getD k none).getD Mt.blank).length = 128) := Lib.hid (by
      cases hx : d.waits.getD k none with
      | none => exact Mt.blank_length
      | some b =>
        refine h.ok.waits k b ?_
        have hl : k < d.waits.length := by rw [h.ok.len]; exact hk
        rw [List.getElem?_eq_getElem hl]
        simpa [List.getD, List.getElem?_eq_getElem hl] using hx)
    have HCV := Lib.hid (fun (u : World) L hL => conv_sec u w.heap.size 128 L 72 hL)
    clear hZ h
    obtain ⟨W, hW⟩ : ∃ W, d.waits.getD k none = W := ⟨_, rfl⟩
    obtain ⟨L, hL⟩ : ∃ L, d.lasts.getD k [] = L := ⟨_, rfl⟩
    rw [hW] at HL HWW ⊢
    rw [hL] at HLL HLD ⊢
    clear hW hL
    obtain ⟨V, hV⟩ : ∃ V, W.getD Mt.blank = V := ⟨_, rfl⟩
    have HV := Lib.hid hV
    rw [hV] at HL HWW
    clear hV
    generalize d.lasts.length = n at *
    have hl := HL.out
    clear HL
    generalize hZ : secCells Mt.blank = Z at HZ
    have hld := HLD.out (.cells (secCells V) 72)
    clear HLD
    have hcv := HCV.out (w.alloc (.cells (secCells L) 72)) L HLL.out (heap_alloc_new _ _)
    have hcv2 := HCV.out (w.alloc (.cells (secCells V) 72)) V HWW.out (heap_alloc_new _ _)
    clear HCV
    cases W with
    | none =>
      go_enter Tryz.func62, Tryz.ntmps62
      go_wp2_with fail
      refine (HA.out).mono ?_
      rintro e w' ⟨rfl, rfl⟩
      go_wp2_with (first | (refine wpList_alloc_sec rfl rfl ?_; rw [hZ]) | (refine wpList_store_sec rfl _ _ rfl w.heap.size _ _ rfl rfl (by first | exact HWW.out | exact HLL.out) (heap_alloc_new _ _) (by first | exact HZ.out | (rw [secCells_size]; exact HWW.out)) ?_; rw [setRow_alloc]) | (refine wpList_load_run rfl 72 _ rfl _ _ rfl hld ?_))
      go_ret2
      exact ⟨rfl, (Below.refl _ _).alloc (Nat.le_refl _) _⟩
    | some b =>
      have hb : b = V := HV.out
      have HB := Lib.hid hb
      clear hb HV
      go_enter Tryz.func62, Tryz.ntmps62
      go_wp2_with fail
      refine (HA.out).mono ?_
      rintro e w' ⟨rfl, rfl⟩
      go_wp2_with (first | (refine wpList_alloc_sec rfl rfl ?_; rw [hZ]) | (refine wpList_store_sec rfl _ _ rfl w.heap.size _ _ rfl rfl HWW.out (heap_alloc_new _ _) HZ.out ?_; rw [setRow_alloc]))
      go_ret2
      refine ⟨?_, (Below.refl _ _).alloc (Nat.le_refl _) _⟩
      rw [show (some b).getD L = b from rfl, HB.out]
      rfl
  · rw [Mt.read_no d i h0]
    obtain ⟨r, hr⟩ : ∃ r, d.ask i = r := ⟨_, rfl⟩
    rw [hr] at HA h0 ⊢
    have hne : (r == 0) = false := by simpa using h0
    have hne2 : (r != 0) = true := by simpa using h0
    clear hr h
    go_enter Tryz.func62, Tryz.ntmps62
    go_wp2_with fail
    refine (HA.out).mono ?_
    rintro e w' ⟨rfl, rfl⟩
    go_wp2_with fail
    go_ret2
    exact ⟨rfl, Below.refl _ _⟩
end
end Go.Proofs.YtnioagojiipjlaaGreat

/-
  The contracts of maps.Keys, slices.Sorted and slices.Sort at this translation: numbers and rows of the table, in plain words.
-/
namespace Go.Proofs
open Go.Shelf
def Tryz.keysA_ren : Go.Shelf.Ren := ⟨fun | 7 => 76 | 10 => 92 | n => n, fun | 23 => 62 | 26 => 3 | 3 => 72 | 28 => 119 | 0 => 0 | 27 => 118 | 33 => 133 | 4 => 4 | n => n, fun | n => n⟩
theorem Tryz.keysA : Go.Proofs.SlLaysZI.n7 Tryz.prog Tryz.keysA_ren := {
  mixed := by kernel_rfl
  f7 := ⟨Tryz.f76.name, by decide, Tryz.func76.trans (congrArg some (by kernel_rfl))⟩
  f10 := ⟨Tryz.f92.name, by decide, Tryz.func92.trans (congrArg some (by kernel_rfl))⟩
  t0 := Tryz.underlying0
  a0 := Tryz.isAgg0
  z0 := Tryz.sizeOf0
  v0 := Tryz.zeroValue0
  t4 := Tryz.underlying4
  a4 := Tryz.isAgg4
  z4 := Tryz.sizeOf4
  v4 := Tryz.zeroValue4
  t23 := Tryz.underlying62
  a23 := Tryz.isAgg62
  z23 := Tryz.sizeOf62
  v23 := Tryz.zeroValue62
  t26 := Tryz.underlying3
  a26 := Tryz.isAgg3
  z26 := Tryz.sizeOf3
  v26 := Tryz.zeroValue3
  t27 := Tryz.underlying118
  a27 := Tryz.isAgg118
  z27 := Tryz.sizeOf118
  v27 := Tryz.zeroValue118
  t28 := Tryz.underlying119
  a28 := Tryz.isAgg119
  z28 := Tryz.sizeOf119
  v28 := Tryz.zeroValue119
  t33 := Tryz.underlying133
  a33 := Tryz.isAgg133
  z33 := Tryz.sizeOf133
  v33 := Tryz.zeroValue133 }
def Tryz.sortedA_ren : Go.Shelf.Ren := ⟨fun | 6 => 75 | 8 => 90 | 9 => 91 | 11 => 99 | 13 => 101 | 12 => 100 | 23 => 115 | 24 => 116 | 14 => 106 | 15 => 107 | 16 => 108 | 17 => 109 | 18 => 110 | 19 => 111 | 20 => 112 | 21 => 113 | 22 => 114 | 25 => 123 | 26 => 124 | 27 => 125 | 28 => 126 | 29 => 127 | 30 => 128 | 31 => 134 | n => n, fun | 26 => 3 | 28 => 119 | 24 => 116 | 0 => 0 | 3 => 3 | 37 => 121 | 48 => 130 | 50 => 40 | 4 => 4 | 40 => 149 | 39 => 148 | 45 => 154 | 5 => 5 | 9 => 9 | 51 => 163 | 55 => 167 | 57 => 174 | 58 => 175 | 33 => 133 | n => n, fun | n => n⟩
theorem Tryz.sortedA : Go.Proofs.SlLaysZI.n6 Tryz.prog Tryz.sortedA_ren := {
  mixed := by kernel_rfl
  f6 := ⟨Tryz.f75.name, by decide, Tryz.func75.trans (congrArg some (by kernel_rfl))⟩
  f8 := ⟨Tryz.f90.name, by decide, Tryz.func90.trans (congrArg some (by kernel_rfl))⟩
  f11 := ⟨Tryz.f99.name, by decide, Tryz.func99.trans (congrArg some (by kernel_rfl))⟩
  t0 := Tryz.underlying0
  a0 := Tryz.isAgg0
  z0 := Tryz.sizeOf0
  v0 := Tryz.zeroValue0
  t24 := Tryz.underlying116
  a24 := Tryz.isAgg116
  z24 := Tryz.sizeOf116
  v24 := Tryz.zeroValue116
  t26 := Tryz.underlying3
  a26 := Tryz.isAgg3
  z26 := Tryz.sizeOf3
  v26 := Tryz.zeroValue3
  t28 := Tryz.underlying119
  a28 := Tryz.isAgg119
  z28 := Tryz.sizeOf119
  v28 := Tryz.zeroValue119
  i26 := by kernel_rfl }
def Tryz.sortA_ren : Go.Shelf.Ren := ⟨fun | 5 => 91 | 8 => 101 | 7 => 100 | 19 => 115 | 20 => 116 | 10 => 106 | 11 => 107 | 12 => 108 | 13 => 109 | 14 => 110 | 15 => 111 | 16 => 112 | 17 => 113 | 18 => 114 | 30 => 123 | 31 => 124 | 32 => 125 | 33 => 126 | 34 => 127 | 35 => 128 | 40 => 134 | n => n, fun | 23 => 116 | 25 => 3 | 3 => 3 | 32 => 121 | 22 => 116 | 0 => 0 | 44 => 130 | 46 => 40 | 4 => 4 | 36 => 149 | 35 => 148 | 41 => 154 | 5 => 5 | 9 => 9 | 53 => 163 | 57 => 167 | 63 => 174 | 64 => 175 | n => n, fun | n => n⟩
theorem Tryz.sortA : Go.Proofs.SlLaysM.n5 Tryz.prog Tryz.sortA_ren := {
  mixed := by kernel_rfl
  f5 := ⟨Tryz.f91.name, by decide, Tryz.func91.trans (congrArg some (by kernel_rfl))⟩
  f7 := ⟨Tryz.f100.name, by decide, Tryz.func100.trans (congrArg some (by kernel_rfl))⟩
  f8 := Tryz.func101.trans (congrArg some (by kernel_rfl))
  f10 := ⟨Tryz.f106.name, by decide, Tryz.func106.trans (congrArg some (by kernel_rfl))⟩
  f11 := ⟨Tryz.f107.name, by decide, Tryz.func107.trans (congrArg some (by kernel_rfl))⟩
  f12 := ⟨Tryz.f108.name, by decide, Tryz.func108.trans (congrArg some (by kernel_rfl))⟩
  f13 := ⟨Tryz.f109.name, by decide, Tryz.func109.trans (congrArg some (by kernel_rfl))⟩
  f14 := ⟨Tryz.f110.name, by decide, Tryz.func110.trans (congrArg some (by kernel_rfl))⟩
  f15 := ⟨Tryz.f111.name, by decide, Tryz.func111.trans (congrArg some (by kernel_rfl))⟩
  f16 := ⟨Tryz.f112.name, by decide, Tryz.func112.trans (congrArg some (by kernel_rfl))⟩
  f17 := ⟨Tryz.f113.name, by decide, Tryz.func113.trans (congrArg some (by kernel_rfl))⟩
  f18 := ⟨Tryz.f114.name, by decide, Tryz.func114.trans (congrArg some (by kernel_rfl))⟩
  f19 := Tryz.func115.trans (congrArg some (by kernel_rfl))
  f20 := Tryz.func116.trans (congrArg some (by kernel_rfl))
  f30 := ⟨Tryz.f123.name, by decide, Tryz.func123.trans (congrArg some (by kernel_rfl))⟩
  f31 := Tryz.func124.trans (congrArg some (by kernel_rfl))
  f32 := Tryz.func125.trans (congrArg some (by kernel_rfl))
  f33 := ⟨Tryz.f126.name, by decide, Tryz.func126.trans (congrArg some (by kernel_rfl))⟩
  f34 := ⟨Tryz.f127.name, by decide, Tryz.func127.trans (congrArg some (by kernel_rfl))⟩
  f35 := ⟨Tryz.f128.name, by decide, Tryz.func128.trans (congrArg some (by kernel_rfl))⟩
  f40 := ⟨Tryz.f134.name, by decide, Tryz.func134.trans (congrArg some (by kernel_rfl))⟩
  t0 := Tryz.underlying0
  a0 := Tryz.isAgg0
  z0 := Tryz.sizeOf0
  v0 := Tryz.zeroValue0
  t3 := Tryz.underlying3
  a3 := Tryz.isAgg3
  z3 := Tryz.sizeOf3
  v3 := Tryz.zeroValue3
  t4 := Tryz.underlying4
  a4 := Tryz.isAgg4
  z4 := Tryz.sizeOf4
  v4 := Tryz.zeroValue4
  t5 := Tryz.underlying5
  a5 := Tryz.isAgg5
  z5 := Tryz.sizeOf5
  v5 := Tryz.zeroValue5
  t9 := Tryz.underlying9
  a9 := Tryz.isAgg9
  z9 := Tryz.sizeOf9
  v9 := Tryz.zeroValue9
  t22 := Tryz.underlying116
  a22 := Tryz.isAgg116
  z22 := Tryz.sizeOf116
  v22 := Tryz.zeroValue116
  t23 := Tryz.underlying116
  a23 := Tryz.isAgg116
  z23 := Tryz.sizeOf116
  v23 := Tryz.zeroValue116
  t25 := Tryz.underlying3
  a25 := Tryz.isAgg3
  z25 := Tryz.sizeOf3
  v25 := Tryz.zeroValue3
  t32 := Tryz.underlying121
  a32 := Tryz.isAgg121
  z32 := Tryz.sizeOf121
  v32 := Tryz.zeroValue121
  t35 := Tryz.underlying148
  a35 := Tryz.isAgg148
  z35 := Tryz.sizeOf148
  v35 := Tryz.zeroValue148
  t36 := Tryz.underlying149
  a36 := Tryz.isAgg149
  z36 := Tryz.sizeOf149
  v36 := Tryz.zeroValue149
  t41 := Tryz.underlying154
  a41 := Tryz.isAgg154
  z41 := Tryz.sizeOf154
  v41 := Tryz.zeroValue154
  t44 := Tryz.underlying130
  a44 := Tryz.isAgg130
  z44 := Tryz.sizeOf130
  v44 := Tryz.zeroValue130
  t46 := Tryz.underlying40
  a46 := Tryz.isAgg40
  z46 := Tryz.sizeOf40
  v46 := Tryz.zeroValue40
  t53 := Tryz.underlying163
  a53 := Tryz.isAgg163
  z53 := Tryz.sizeOf163
  v53 := Tryz.zeroValue163
  t57 := Tryz.underlying167
  a57 := Tryz.isAgg167
  z57 := Tryz.sizeOf167
  v57 := Tryz.zeroValue167
  t63 := Tryz.underlying174
  a63 := Tryz.isAgg174
  z63 := Tryz.sizeOf174
  v63 := Tryz.zeroValue174
  t64 := Tryz.underlying175
  a64 := Tryz.isAgg175
  z64 := Tryz.sizeOf175
  v64 := Tryz.zeroValue175 }
end Go.Proofs

/-
  The numbers of the sectors that wait, in order: slices.Sorted(maps.Keys(..)); the map cleared.
-/
namespace Go.Proofs.YtnioagojiipjlaaGreat
open Go.RowKit Go.Maps Go.Sort Go.Shelf
open Go.MapKept (run_setObj_map stamped_empty)
open Go.ChangeMaps (setBlock heap_setBlock_other heap_setBlock_same)

theorem sortsA (m : Nat) : AnyZI.SortsIn Tryz.prog Tryz.sortedA_ren Fence.wide m :=
  ⟨fun blk off cap ss W hH hblk hsz => callsIn_wide.2 (AnyM.slices_Sort_int Tryz.sortA blk off cap ss W hH hblk hsz),
   fun p cap W => callsIn_wide.2 (AnyM.slices_Sort_int_none Tryz.sortA p cap W)⟩

theorem keys_any (mb : Option Nat) (W : World) : Calls Tryz.prog 76 #[.map mb] W fun e w' => e = .returned (.func (.func 92) #[] #[.pointer (some ⟨W.heap.size, 0, none⟩)]) ∧ w' = W.alloc (.cells #[.map mb] 62) :=
  (callsIn_wide (n := 5)).1 (AnyZI.keys_in Tryz.keysA Fence.wide 5 trivial rfl mb W)

/-- A slice of these numbers, that the call made. -/
def IsInts (base : Nat) (w : World) (v : Value) (K : List Nat) : Prop := ∃ a cap, v = .slice a K.length cap ∧ (K.length = 0 ∨ ∃ g, a = some ⟨g, 0, none⟩ ∧ base ≤ g ∧ ∀ i, i < K.length → w.cell? ⟨g, i, none⟩ = some (.int .i64 ((K.getD i 0 : Nat) : Int)))
theorem IsInts.below {base : Nat} {w u : World} {v : Value} {K : List Nat} (h : IsInts base w v K) (hb : Below w.heap.size w u) : IsInts base u v K := by
  obtain ⟨a, cap, e, h⟩ := h
  refine ⟨a, cap, e, ?_⟩
  rcases h with h | ⟨g, rfl, hg, h⟩
  · exact .inl h
  · exact .inr ⟨g, rfl, hg, fun i hi => by rw [hb.cell (p := ⟨g, i, none⟩) (World.block_lt_of_cell? w _ (h i hi))]; exact h i hi⟩

theorem waits_perm {w : World} {bm n : Nat} {D : DataW Unit} {W : List (Option (List UInt8))} (hown : w.ownsMap Tryz.prog 3 secElem bm n D) (hW : Waits D W) : ((Mt.wkeys W).map Int.ofNat).Perm (intKeys D) := by
  obtain ⟨es, rfl, hpw, _⟩ := hown.entries keyLaw
  obtain ⟨es', hD', hko⟩ := hown.keysOf
  obtain rfl : es = es' := by simpa using hD'
  refine perm_intKeys hpw (fun p hp => ?_) ?_ (fun x => ?_)
  · obtain ⟨v, hv⟩ := hko p hp
    obtain ⟨x, _, hx, _⟩ := Maps.keyOf_i64 Tryz.underlying3 hv
    exact ⟨x, hx⟩
  · exact List.Pairwise.map _ (fun a b h e => h (Int.ofNat.inj e)) (Mt.wkeys_nodup W)
  · rw [hW.has x, List.mem_map]
    constructor
    · rintro ⟨i, hi, rfl⟩
      exact ⟨by simp, by simpa using Mt.mem_wkeys.1 hi⟩
    · rintro ⟨h0, h1⟩
      exact ⟨x.toNat, Mt.mem_wkeys.2 h1, by simp; omega⟩
theorem waits_size {w : World} {bm n : Nat} {D : DataW Unit} {W : List (Option (List UInt8))} (hown : w.ownsMap Tryz.prog 3 secElem bm n D) (hW : Waits D W) : Maps.size D = (Mt.wkeys W).length := by
  have h := (waits_perm hown hW).length_eq
  obtain ⟨es, rfl, _, _⟩ := hown.entries keyLaw
  simpa [Maps.size, intKeys] using h.symm
theorem sorted_keys (W : List (Option (List UInt8))) (ss : List Int) (h : ss.Perm ((Mt.wkeys W).map Int.ofNat)) : ss.mergeSort (fun x y => decide (x ≤ y)) = (Mt.wkeys W).map Int.ofNat := by
  have e := mergeSort_of_perm_i h
  unfold leI at e
  rw [e]
  refine List.mergeSort_of_pairwise ?_
  refine List.Pairwise.map _ (fun a b h => ?_) (Mt.wkeys_sorted W)
  simp; omega

set_option maxHeartbeats 1000000 in
theorem sorted_any {w : World} {bm n : Nat} {D : DataW Unit} {W : List (Option (List UInt8))} (hown : w.ownsMap Tryz.prog 3 secElem bm n D) (hW : Waits D W) (hl : W.length ≤ 8192) :
    Calls Tryz.prog 75 #[.func (.func 92) #[] #[.pointer (some ⟨w.heap.size, 0, none⟩)]] (w.alloc (.cells #[.map (some bm)] 62)) fun e w' => ∃ v, e = .returned v ∧ IsInts w.heap.size w' v (Mt.wkeys W) ∧ Below w.heap.size w w' := by
  have hsz : Maps.size D ≤ 8192 := by
    rw [waits_size hown hW]
    exact Nat.le_trans (Mt.wkeys_length W) hl
  have hbl := hown.lt
  have hseq : SeqGives Fence.wide 2 Tryz.prog 92 #[.pointer (some ⟨w.heap.size, 0, none⟩)] encZ (fun ss => ss.Perm (intKeys D)) (Maps.size D) (w.alloc (.cells #[.map (some bm)] 62)) :=
    AnyZI.keys_gives (ρ := Tryz.keysA_ren) { Tryz.keysA with } Fence.wide _ trivial rfl (by omega) w.heap.size bm n D _ (by simp) (by simp) (by
      obtain ⟨es, clock, hb, Ft, hs, hD⟩ := hown
      exact ⟨es, clock, (Below.heap_alloc _ _ bm hbl).trans hb, Ft, hs, hD⟩)
  have cS := AnyZI.sorted_in Tryz.sortedA Fence.wide 5 trivial trivial trivial trivial rfl (by omega) (sortsA _) (enters_of Tryz.func91 (by kernel_rfl) rfl) 92 #[.pointer (some ⟨w.heap.size, 0, none⟩)] trivial (enters_of Tryz.func92 (by kernel_rfl) rfl) _ _ (by unfold maxLen; omega) (by omega) _ hseq
  change CallsIn _ _ Tryz.prog 75 _ _ _ at cS
  refine ((callsIn_wide (n := 5)).1 cS).mono ?_
  rintro e w' ⟨v, ss, rfl, hS, hrow, hnil, hb⟩
  refine ⟨v, rfl, ?_, ((Below.refl _ w).alloc (Nat.le_refl _) _).trans (hb.mono (by simp))⟩
  have hp : ss.Perm ((Mt.wkeys W).map Int.ofNat) := hS.trans (waits_perm hown hW).symm
  have hlen : ss.length = (Mt.wkeys W).length := by rw [hp.length_eq, List.length_map]
  rw [sorted_keys W ss hp, hlen] at hrow
  generalize Mt.wkeys W = K at *
  rcases hrow.2 with ⟨rfl, h0⟩ | ⟨g, cap, cur, rfl, hg, hh⟩
  · exact ⟨none, 0, by rw [h0], .inl h0⟩
  · refine ⟨_, cap, rfl, ?_⟩
    rcases Nat.eq_zero_or_pos K.length with h0 | h0
    · exact .inl h0
    · refine .inr ⟨g, rfl, Nat.le_trans (by simp) hg, fun i hi => ?_⟩
      rw [hrow.cellAt i (by omega)]
      simp [List.getD, List.getElem?_eq_getElem hi, encZ]

/-- The map is cleared. -/
theorem IsDisk.clear {w : World} {B bl bm : Nat} {d : Mt.Dk} (h : IsDisk w B bl bm d) (ty : TypeId) : ∃ w', (Builtin.clear_ #[62] ty #[.map (some bm)]).run Tryz.prog w = .ok (.tuple #[]) w' ∧ IsDisk w' B bl bm { d with waits := Mt.noWaits d.lasts.length } ∧ OnlyS [B, bl, bm] w w' := by
  obtain ⟨D, ⟨es, clock, hb, F, hs, hD⟩, hW⟩ := h.waits
  refine ⟨setBlock w bm (.map #[] clock), ?_, ?_, ?_⟩
  · simp [Builtin.clear_, run_underlying Tryz.underlying62, MapKept.run_getObj_map hb, run_setObj_map _ hb, Result.andThen]
    rfl
  · refine h.setWaits _ (h.ok.clean d.lasts rfl h.ok.lasts) ⟨rfl, rfl, rfl, by simp [setBlock], fun i _ hi => heap_setBlock_other hb _ (fun e => hi (by rw [e]))⟩ (.map []) 0 ?_ (Waits.none _)
    exact ⟨#[], clock, heap_setBlock_same hb _, ⟨by simp, stamped_empty clock, by simp⟩, Nat.le_refl _, rfl⟩
  · exact ⟨rfl, rfl, rfl, by simp [setBlock], fun k _ hk => heap_setBlock_other hb _ (fun e => hk (by rw [e]; simp))⟩
end Go.Proofs.YtnioagojiipjlaaGreat
