/-
  Some texts of one proof, one behind the other.
-/
import Derived.StillTailTactics
import Derived.Lib.Hide
import Derived.Test.YtnioagojiipjlaaGreatPk10
import Derived.Test.YtnioagojiipjlaaGreatPk11
set_option linter.unusedVariables false
set_option linter.unusedSimpArgs false

/-
  The numbers of the sectors that wait, in order: slices.Sorted(maps.Keys(..)); the map cleared.
-/
namespace Go.Proofs.YtnioagojiipjlaaGreat
open Go.RowKit Go.Maps Go.Sort Go.Shelf
open Go.MapKept (run_setObj_map stamped_empty)
open Go.ChangeMaps (setBlock heap_setBlock_other heap_setBlock_same)

theorem sortsA (m : Nat) : AnyZI.SortsIn Tryz.prog Tryz.sortedA_ren Fence.wide m :=
  ⟨fun blk off cap ss W hH hblk hsz => callsIn_wide.2 (AnyM.slices_Sort_int Tryz.sortA blk off cap ss W hH hblk hsz),
   fun p cap W => callsIn_wide.2 (AnyM.slices_Sort_int_none Tryz.sortA p cap W)⟩

theorem keys_any (mb : Option Nat) (W : World) : Calls Tryz.prog 76 #[.map mb] W fun e w' => e = .returned (.func (.func 92) #[] #[.pointer (some ⟨W.heap.size, 0, none⟩)]) ∧ w' = W.alloc (.cells #[.map mb] 62) :=
  (callsIn_wide (n := 5)).1 (AnyZI.keys_in Tryz.keysA Fence.wide 5 trivial rfl mb W)

/-- A slice of these numbers, that the call made. -/
def IsInts (base : Nat) (w : World) (v : Value) (K : List Nat) : Prop := ∃ a cap, v = .slice a K.length cap ∧ (K.length = 0 ∨ ∃ g, a = some ⟨g, 0, none⟩ ∧ base ≤ g ∧ ∀ i, i < K.length → w.cell? ⟨g, i, none⟩ = some (.int .i64 ((K.getD i 0 : Nat) : Int)))
theorem IsInts.below {base : Nat} {w u : World} {v : Value} {K : List Nat} (h : IsInts base w v K) (hb : Below w.heap.size w u) : IsInts base u v K := by
  obtain ⟨a, cap, e, h⟩ := h
  refine ⟨a, cap, e, ?_⟩
  rcases h with h | ⟨g, rfl, hg, h⟩
  · exact .inl h
  · exact .inr ⟨g, rfl, hg, fun i hi => by rw [hb.cell (p := ⟨g, i, none⟩) (World.block_lt_of_cell? w _ (h i hi))]; exact h i hi⟩

theorem waits_perm {w : World} {bm n : Nat} {D : DataW Unit} {W : List (Option (List UInt8))} (hown : w.ownsMap Tryz.prog 3 secElem bm n D) (hW : Waits D W) : ((Mt.wkeys W).map Int.ofNat).Perm (intKeys D) := by
  obtain ⟨es, rfl, hpw, _⟩ := hown.entries keyLaw
  obtain ⟨es', hD', hko⟩ := hown.keysOf
  obtain rfl : es = es' := by simpa using hD'
  refine perm_intKeys hpw (fun p hp => ?_) ?_ (fun x => ?_)
  · obtain ⟨v, hv⟩ := hko p hp
    obtain ⟨x, _, hx, _⟩ := Maps.keyOf_i64 Tryz.underlying3 hv
    exact ⟨x, hx⟩
  · exact List.Pairwise.map _ (fun a b h e => h (Int.ofNat.inj e)) (Mt.wkeys_nodup W)
  · rw [hW.has x, List.mem_map]
    constructor
    · rintro ⟨i, hi, rfl⟩
      exact ⟨by simp, by simpa using Mt.mem_wkeys.1 hi⟩
    · rintro ⟨h0, h1⟩
      exact ⟨x.toNat, Mt.mem_wkeys.2 h1, by simp; omega⟩
theorem waits_size {w : World} {bm n : Nat} {D : DataW Unit} {W : List (Option (List UInt8))} (hown : w.ownsMap Tryz.prog 3 secElem bm n D) (hW : Waits D W) : Maps.size D = (Mt.wkeys W).length := by
  have h := (waits_perm hown hW).length_eq
  obtain ⟨es, rfl, _, _⟩ := hown.entries keyLaw
  simpa [Maps.size, intKeys] using h.symm
theorem sorted_keys (W : List (Option (List UInt8))) (ss : List Int) (h : ss.Perm ((Mt.wkeys W).map Int.ofNat)) : ss.mergeSort (fun x y => decide (x ≤ y)) = (Mt.wkeys W).map Int.ofNat := by
  have e := mergeSort_of_perm_i h
  unfold leI at e
  rw [e]
  refine List.mergeSort_of_pairwise ?_
  refine List.Pairwise.map _ (fun a b h => ?_) (Mt.wkeys_sorted W)
  simp; omega

set_option maxHeartbeats 1000000 in
theorem sorted_any {w : World} {bm n : Nat} {D : DataW Unit} {W : List (Option (List UInt8))} (hown : w.ownsMap Tryz.prog 3 secElem bm n D) (hW : Waits D W) (hl : W.length ≤ 8192) :
    Calls Tryz.prog 75 #[.func (.func 92) #[] #[.pointer (some ⟨w.heap.size, 0, none⟩)]] (w.alloc (.cells #[.map (some bm)] 62)) fun e w' => ∃ v, e = .returned v ∧ IsInts w.heap.size w' v (Mt.wkeys W) ∧ Below w.heap.size w w' := by
  have hsz : Maps.size D ≤ 8192 := by
    rw [waits_size hown hW]
    exact Nat.le_trans (Mt.wkeys_length W) hl
  have hbl := hown.lt
  have hseq : SeqGives Fence.wide 2 Tryz.prog 92 #[.pointer (some ⟨w.heap.size, 0, none⟩)] encZ (fun ss => ss.Perm (intKeys D)) (Maps.size D) (w.alloc (.cells #[.map (some bm)] 62)) :=
    AnyZI.keys_gives (ρ := Tryz.keysA_ren) { Tryz.keysA with } Fence.wide _ trivial rfl (by omega) w.heap.size bm n D _ (by simp) (by simp) (by
      obtain ⟨es, clock, hb, Ft, hs, hD⟩ := hown
      exact ⟨es, clock, (Below.heap_alloc _ _ bm hbl).trans hb, Ft, hs, hD⟩)
  have cS := AnyZI.sorted_in Tryz.sortedA Fence.wide 5 trivial trivial trivial trivial rfl (by omega) (sortsA _) (enters_of Tryz.func91 (by kernel_rfl) rfl) 92 #[.pointer (some ⟨w.heap.size, 0, none⟩)] trivial (enters_of Tryz.func92 (by kernel_rfl) rfl) _ _ (by unfold maxLen; omega) (by omega) _ hseq
  change CallsIn _ _ Tryz.prog 75 _ _ _ at cS
  refine ((callsIn_wide (n := 5)).1 cS).mono ?_
  rintro e w' ⟨v, ss, rfl, hS, hrow, hnil, hb⟩
  refine ⟨v, rfl, ?_, ((Below.refl _ w).alloc (Nat.le_refl _) _).trans (hb.mono (by simp))⟩
  have hp : ss.Perm ((Mt.wkeys W).map Int.ofNat) := hS.trans (waits_perm hown hW).symm
  have hlen : ss.length = (Mt.wkeys W).length := by rw [hp.length_eq, List.length_map]
  rw [sorted_keys W ss hp, hlen] at hrow
  generalize Mt.wkeys W = K at *
  rcases hrow.2 with ⟨rfl, h0⟩ | ⟨g, cap, cur, rfl, hg, hh⟩
  · exact ⟨none, 0, by rw [h0], .inl h0⟩
  · refine ⟨_, cap, rfl, ?_⟩
    rcases Nat.eq_zero_or_pos K.length with h0 | h0
    · exact .inl h0
    · refine .inr ⟨g, rfl, Nat.le_trans (by simp) hg, fun i hi => ?_⟩
      rw [hrow.cellAt i (by omega)]
      simp [List.getD, List.getElem?_eq_getElem hi, encZ]

/-- The map is cleared. -/
theorem IsDisk.clear {w : World} {B bl bm : Nat} {d : Mt.Dk} (h : IsDisk w B bl bm d) (ty : TypeId) : ∃ w', (Builtin.clear_ #[62] ty #[.map (some bm)]).run Tryz.prog w = .ok (.tuple #[]) w' ∧ IsDisk w' B bl bm { d with waits := Mt.noWaits d.lasts.length } ∧ OnlyS [B, bl, bm] w w' := by
  obtain ⟨D, ⟨es, clock, hb, F, hs, hD⟩, hW⟩ := h.waits
  refine ⟨setBlock w bm (.map #[] clock), ?_, ?_, ?_⟩
  · simp [Builtin.clear_, run_underlying Tryz.underlying62, MapKept.run_getObj_map hb, run_setObj_map _ hb, Result.andThen]
    rfl
  · refine h.setWaits _ (h.ok.clean d.lasts rfl h.ok.lasts) ⟨rfl, rfl, rfl, by simp [setBlock], fun i _ hi => heap_setBlock_other hb _ (fun e => hi (by rw [e]))⟩ (.map []) 0 ?_ (Waits.none _)
    exact ⟨#[], clock, heap_setBlock_same hb _, ⟨by simp, stamped_empty clock, by simp⟩, Nat.le_refl _, rfl⟩
  · exact ⟨rfl, rfl, rfl, by simp [setBlock], fun k _ hk => heap_setBlock_other hb _ (fun e => hk (by rw [e]; simp))⟩
end Go.Proofs.YtnioagojiipjlaaGreat

/-
  What a loss of power comes to: lose; a call counted: count; Crash.
-/
namespace Go.Proofs.YtnioagojiipjlaaGreat
open Go.RowKit Go.Maps

section
variable {ops : Array Oper} {rest : List Oper} {o : Oper} {a : Act} {w : World} {Q : Exit → Act → World → Prop} {B bl bm : Nat} {d : Mt.Dk}

theorem IsDisk.look0 (h : IsDisk w B bl bm d) (i : Nat) (hi : i < d.lasts.length) (b : List UInt8) (hb : d.waits[i]? = some (some b)) : (Instr.lookup 62 (.map (some bm)) (.int .i64 (i : Int)) false).run Tryz.prog w = .ok (secV b) w := by
  obtain ⟨D, hD, hW⟩ := h.waits
  have hm := h.ok.most
  have hkey : keyOf Tryz.prog 3 (.int .i64 (i : Int)) = some (.int .i64 (i : Int)) := keyOf_int_mk Tryz.underlying3 (WalkArith.wf_i64 (by omega))
  obtain ⟨v, ps, hrun, hv⟩ := hD.lookup keyLaw Tryz.underlying62 (zeroSec w) (secElem_mk Mt.blank Mt.blank_length) hkey
  obtain ⟨L, hL, rfl, hz⟩ := secElem_inv hv
  rw [hrun]
  have hat : D.atKey (.int .i64 (i : Int)) (.lit (.string Mt.blank)) = .lit (.string L) := congrArg Prod.fst hz
  rw [hW.at' i b _ hb] at hat
  have : b = L := by simpa using hat
  rw [← this]

theorem Mt.Dk.Ok.putSec {d : Mt.Dk} (o : d.Ok) (i : Nat) (L : List UInt8) (hL : L.length = 128) : ({ d with lasts := d.lasts.set i L } : Mt.Dk).Ok := by
  refine ⟨by simpa using o.len, by simpa using o.most, fun j hj => ?_, o.waits, by simpa using o.room, o.cut, o.keep, o.torn, o.at'⟩
  simp only [List.getElem_set]
  split
  · exact hL
  · exact o.lasts j (by simpa using hj)
/-- A sector of the row is written whole. -/
theorem IsDisk.put (h : IsDisk w B bl bm d) (i : Nat) (hi : i < d.lasts.length) (L : List UInt8) (hL : L.length = 128) :
    (storeVar 72 ⟨bl, i * 128, none⟩ (secV L)).run Tryz.prog w = .ok () (w.setRow bl (flat (d.lasts.set i L))) ∧ IsDisk (w.setRow bl (flat (d.lasts.set i L))) B bl bm { d with lasts := d.lasts.set i L } := by
  have hf := flat_size d.lasts h.ok.lasts
  have hfit : i * 128 + 128 ≤ (flat d.lasts).size := by rw [hf]; omega
  have hst := run_storeCells_at Tryz.prog bl (i * 128) 72 (secCells L).toList 0 (flat d.lasts) w h.secs (by rw [Array.length_toList, secCells_size]; omega) (fun v hv => Mt.cs_one L v (by simpa [secCells] using hv))
  simp only [Nat.add_zero, Array.length_toList, secCells_size, hL] at hst
  have hp := flat_put d.lasts h.ok.lasts i 128 hi L hL (Nat.le_refl _)
  rw [show List.drop 128 d.lasts[i] = [] from List.drop_of_length_le (by rw [h.ok.lasts i hi]; omega), List.append_nil, Nat.mul_comm 128 i] at hp
  have e : (secCells L).toList = Mt.cs L := rfl
  rw [e, hp] at hst
  refine ⟨?_, h.setSecs _ (h.ok.putSec i L hL) (by simp)⟩
  · have hz := Tryz.szSec
    cases hq : Tryz.prog.info? 72 with
    | none => simp [hq] at hz
    | some i =>
      have hs2 : i.size = 128 := by simpa [hq] using hz
      simp [storeVar, sizeOf, typeInfo, hq, secV, Value.cells, hs2, hL, Mt.cs_length]
      simpa using hst

/-- A sector of the row is torn. -/
theorem IsDisk.tear (h : IsDisk w B bl bm d) (i : Nat) (hi : i < d.lasts.length) (b : List UInt8) (hb : b.length = 128) (t : Nat) (ht : t ≤ 128) (g scap : Nat) (t2 : TypeId) (hg : w.heap[g]? = some (.cells (secCells b) t2 (0, 0))) (ty : TypeId) :
    (Builtin.copy_ #[73, 73] ty #[.slice (some ⟨bl, i * 128, none⟩) 128 128, .slice (some ⟨g, 0, none⟩) t scap]).run Tryz.prog w = .ok (goInt t) (w.setRow bl (flat (d.lasts.set i (b.take t ++ (d.lasts.getD i []).drop t)))) := by
  have hf := flat_size d.lasts h.ok.lasts
  have hlen : (Mt.cs (b.take t)).length = t := by rw [Mt.cs_length, List.length_take]; omega
  have hr := run_copy_row (P := Tryz.prog) w 73 73 ty 5 bl (i * 128) 128 128 ⟨g, 0, none⟩ t scap (flat d.lasts) 72 (Mt.cs (b.take t)) Tryz.underlying73 Tryz.szU8 h.secs (by rw [hlen]; exact (Nat.min_eq_left ht).symm)
    (fun j v hj => by
      obtain ⟨hj1, rfl⟩ := Mt.cs_getD _ j v hj
      rw [List.length_take] at hj1
      rw [add_off, cell_of_row _ _ _ _ _ _ hg, Nat.zero_add]
      simp [secCells, Mt.cs, List.getD, List.getElem?_eq_getElem (show j < b.length by omega), List.getElem?_take_of_lt (show j < t by omega)])
    (by rw [hlen, hf]; omega) (Mt.cs_one _)
  rw [hlen] at hr
  have e : d.lasts.getD i [] = d.lasts[i] := by simp [List.getD, List.getElem?_eq_getElem hi]
  have hp := flat_put d.lasts h.ok.lasts i t hi (b.take t) (by rw [List.length_take]; omega) ht
  rw [Nat.mul_comm 128 i] at hp
  rw [hr, hp, e]

theorem wpList_store_run (hgd : o.guard = none) (ty : TypeId) (x y : Operand) (ho : o.op = .store ty x y) (p : Addr) (v : Value) (hx : a.eval x = .pointer (some p)) (hy : a.eval y = v) (u : World)
    (hr : (storeVar ty p v).run Tryz.prog w = .ok () u) (h : wpList Tryz.prog ops Q rest (a.put o.dst undef) u) : wpList Tryz.prog ops Q (o :: rest) a w :=
  wpList_plain hgd fun _ hK => by
    unfold Oper.wp execOp
    simp only [ho, hx, hy, Instr.storeAt, Instr.sureAddr, Sem.run_bind, Sem.run_pure, Result.andThen_ok, hr]
    exact hK _ _ h
theorem wpList_clear_run (hgd : o.guard = none) (m : Operand) (ho : o.op = .call { callee := .builtin .clear, args := #[m], argTypes := #[62] }) (v : Value) (hm : a.eval m = v) (u : World)
    (hr : ∀ ty, (Builtin.clear_ #[62] ty #[v]).run Tryz.prog w = .ok (.tuple #[]) u) (h : wpList Tryz.prog ops Q rest (a.put o.dst (.tuple #[])) u) : wpList Tryz.prog ops Q (o :: rest) a w :=
  wpList_plain hgd fun _ hK => by
    unfold Oper.wp execOp
    simp only [ho, resolve, invoke, builtin, Sem.run_bind, Sem.run_pure, Result.andThen_ok, List.map_toArray, List.map_cons, List.map_nil, hm, hr]
    exact hK _ _ h

set_option maxHeartbeats 1000000 in
set_option maxRecDepth 100000 in
theorem lose_any (h : IsDisk w B bl bm d) (keep : Nat) (torn at' : Int) (hk : keep < 18446744073709551616) (ht : -9223372036854775808 ≤ torn ∧ torn ≤ 9223372036854775807) (ha : -9223372036854775808 ≤ at' ∧ at' ≤ 9223372036854775807) :
    Calls Tryz.prog 53 #[.pointer (some ⟨B, 0, none⟩), .agg #[.int .u64 (keep : Int), .int .i64 torn, .int .i64 at']] w fun e w' => e = .returned (.tuple #[]) ∧ IsDisk w' B bl bm (d.lose keep torn at') ∧ OnlyS [B, bl, bm] w w' := by
  have HD := Lib.hid h
  have hlt := h.ltB
  have h1 := h.c1
  have hK := Lib.hid (fun u => keys_any (some bm) u)
  obtain ⟨D, hD, hW⟩ := h.waits
  have hS : Hid (∀ (o : Obj) (n : Nat), n = w.heap.size + 1 → Calls Tryz.prog 75 #[.func (.func 92) #[] #[.pointer (some ⟨n, 0, none⟩)]] ((w.alloc o).alloc (.cells #[.map (some bm)] 62)) fun e w' => ∃ v, e = .returned v ∧ IsInts (w.heap.size + 1) w' v (Mt.wkeys d.waits) ∧ Below (w.heap.size + 1) (w.alloc o) w') := Lib.hid (fun o n hn => by
    have e : (w.alloc o).heap.size = w.heap.size + 1 := by simp
    rw [hn, ← e]
    exact sorted_any (w := w.alloc o) (hD.alloc o) hW (by rw [h.ok.len]; exact h.ok.most))
  have HKN := Lib.hid (Mt.wkeys_length d.waits)
  have hKL : (Mt.wkeys d.waits).length ≤ 8192 := Nat.le_trans (Mt.wkeys_length d.waits) (by rw [h.ok.len]; exact h.ok.most)
  clear h hD hW
  obtain ⟨K, hKe⟩ : ∃ K, Mt.wkeys d.waits = K := ⟨_, rfl⟩
  have HKE := Lib.hid hKe
  rw [hKe] at hS hKL HKN
  clear hKe
  go_enter Tryz.func53, Tryz.ntmps53
  go_wp2_with fail
  refine (hK.out _).mono ?_
  rintro e w' ⟨rfl, rfl⟩
  go_wp2_with fail
  refine (hS.out _ _ rfl).mono ?_
  rintro e w2 ⟨v, rfl, hv, hb⟩
  obtain ⟨ad, cap, rfl, hv2⟩ := hv
  have HL : Hid (∀ u, OnlyS [B, bl, bm] w2 u → u.cell? ⟨w.heap.size, 0, none⟩ = some (.int .u64 (keep : Int)) ∧ u.cell? ⟨w.heap.size, 1, none⟩ = some (.int .i64 torn) ∧ u.cell? ⟨w.heap.size, 2, none⟩ = some (.int .i64 at')) := Lib.hid (fun u hu => by
    have hr := hb.block w.heap.size (by omega)
    rw [heap_alloc_new] at hr
    have hr2 : u.heap[w.heap.size]? = some (.cells #[.int .u64 (keep : Int), .int .i64 torn, .int .i64 at'] 42 (0, 0)) := by
      rw [hu.block _ (lt_of_block hr) (by have := HD.out.ltL; have := HD.out.ltM; simp; omega)]
      exact hr
    exact ⟨by rw [cell_of_row _ _ _ _ _ _ hr2]; rfl, by rw [cell_of_row _ _ _ _ _ _ hr2]; rfl, by rw [cell_of_row _ _ _ _ _ _ hr2]; rfl⟩)
  have HI : Hid (∀ u, OnlyS [B, bl, bm] w2 u → ∀ i, i < K.length → ∃ g, ad = some ⟨g, 0, none⟩ ∧ u.cell? ⟨g, i, none⟩ = some (.int .i64 ((K.getD i 0 : Nat) : Int))) := Lib.hid (fun u hu i hi => by
    rcases hv2 with h0 | ⟨g, rfl, hg, hc⟩
    · omega
    · refine ⟨g, rfl, ?_⟩
      rw [hu.cell (p := ⟨g, i, none⟩) (World.block_lt_of_cell? w2 _ (hc i hi)) (by have := HD.out.ltL; have := HD.out.ltM; simp; omega)]
      exact hc i hi)
  have HD2 : Hid (IsDisk w2 B bl bm d) := Lib.hid (((HD.out.alloc _).below (hb.mono (by simp))))
  have HB2 : Hid (OnlyS [B, bl, bm] w w2) := Lib.hid (((OnlyS.refl _ _).alloc _).then (hb.mono (by simp)))
  have HKEY : Hid (∀ i, i < K.length → K.getD i 0 < d.lasts.length ∧ ∃ b, b.length = 128 ∧ d.waits[K.getD i 0]? = some (some b) ∧ (d.waits.getD (K.getD i 0) none).getD [] = b) := Lib.hid (fun i hi => by
    have hm : K.getD i 0 ∈ Mt.wkeys d.waits := by rw [HKE.out]; simp [List.getD, List.getElem?_eq_getElem hi]
    obtain ⟨h3, b, h4⟩ := HD.out.ok.keys _ hm
    exact ⟨h3, b, HD.out.ok.waits _ _ h4, h4, by rw [List.getD_eq_getElem?_getD, h4]; rfl⟩)
  clear hb hv2 hS hK h1 HD
  go_wp2_with fail
  go_loopw [14] (fun i wr => ∃ k : Nat, k ≤ K.length ∧ i = .int .i64 k ∧ Hid (IsDisk wr B bl bm { d with lasts := Mt.loseK keep torn at' d.waits 0 (K.take k) d.lasts }) ∧ Hid (OnlyS [B, bl, bm] w2 wr))
    (fun i _ => K.length - (intOf i).toNat)
  case atStart => exact ⟨0, by omega, rfl, HD2, Lib.hid (OnlyS.refl _ _)⟩
  case round =>
    clear HD2
    obtain ⟨k, hk, rfl, HDK, HBK⟩ := hrel
    by_cases hlt2 : k < K.length
    · obtain ⟨g, hge, hcell⟩ := HI.out wr HBK.out k hlt2
      subst hge
      obtain ⟨hi, b, hb, hw, hwb⟩ := HKEY.out k hlt2
      have HTK : Hid (Mt.loseK keep torn at' d.waits 0 (K.take (k + 1)) d.lasts = (Mt.loseK keep torn at' d.waits 0 (K.take k) d.lasts).set (K.getD k 0) (Mt.pick keep torn at' k ((Mt.loseK keep torn at' d.waits 0 (K.take k) d.lasts).getD (K.getD k 0) []) b)) := Lib.hid (by
        have e : K.take (k + 1) = K.take k ++ [K.getD k 0] := by
          rw [List.take_succ_eq_append_getElem hlt2]; simp [List.getD, List.getElem?_eq_getElem hlt2]
        have e2 : 0 + (K.take k).length = k := by rw [List.length_take]; omega
        rw [e, Mt.loseK_append, e2, ← hwb]
        rfl)
      have hll := Mt.loseK_length keep torn at' d.waits (K.take k) 0 d.lasts
      obtain ⟨Lk, hLk⟩ : ∃ Lk, Mt.loseK keep torn at' d.waits 0 (K.take k) d.lasts = Lk := ⟨_, rfl⟩
      rw [hLk] at HTK HDK hll
      obtain ⟨i, hie⟩ : ∃ i, K.getD k 0 = i := ⟨_, rfl⟩
      rw [hie] at HTK hi hw hcell
      clear hLk hie hwb
      have hL1 := HDK.out.ltB
      have hl := HDK.out.look0 i (by rw [hll]; exact hi) b hw
      have hc0 := HDK.out.c0
      have hc1 := HDK.out.c1
      obtain ⟨hp0, hp1, hp2⟩ := HL.out wr HBK.out
      have hpl := World.block_lt_of_cell? wr _ hp0
      have hki : (k : Int) < (K.length : Int) := by omega
      have hii : (i : Int) < (Lk.length : Int) := by omega
      have HBL := Lib.hid hb
      have HW := Lib.hid hw
      have hn8 : Lk.length ≤ 8192 := HDK.out.ok.most
      have hZ : (secCells Mt.blank).size = 128 := by rw [secCells_size]; exact Mt.blank_length
      have HZ := Lib.hid hZ
      have HT := Lib.hid (fun u => torn_any at' u ha)
      clear hw hb hZ hn8
      have HX : Hid ({ d with lasts := Lk }.lasts = Lk) := Lib.hid rfl
      dsimp only at hc0
      generalize hZ : secCells Mt.blank = Z at HZ
      by_cases htk : (k : Int) = torn
      · have ht1 : ((k : Int) == torn) = true := by simpa using htk
        clear htk
        go_wp2_with (first | (refine wpList_alloc_sec rfl rfl ?_; rw [hZ]) | (refine wpList_store_sec rfl _ _ rfl wr.heap.size _ _ rfl rfl HBL.out (heap_alloc_new _ _) HZ.out ?_; rw [setRow_alloc]))
        have hd3 := HDK.out.alloc (.cells (secCells b) 72)
        have hg3 := heap_alloc_new wr (.cells (secCells b) 72)
        have hb3 := HBK.out.alloc (.cells (secCells b) 72)
        obtain ⟨_, _, hq2⟩ := HL.out _ hb3
        have hz3 : wr.heap.size < (wr.alloc (.cells (secCells b) 72)).heap.size := by simp
        generalize (wr.alloc (.cells (secCells b) 72)) = w3 at hd3 hg3 hb3 hq2 hz3 ⊢
        generalize wr.heap.size = n3 at *
        clear hl hc0 hc1 hp0 hp1 hp2 hcell HX HDK HBK
        have hc0 := hd3.c0
        dsimp only at hc0
        have HD3 := Lib.hid hd3
        have HG3 := Lib.hid hg3
        have HB3 := Lib.hid hb3
        have HTN : Mt.tornN at' ≤ 128 := by unfold Mt.tornN; omega
        have HTI : (Mt.tornN at' : Int) ≤ 128 := by omega
        have HT0 : (0 : Int) ≤ (Mt.tornN at' : Int) := by omega
        have HTT := Lib.hid (fun u : World => (HT.out u).mono (R' := fun e w' => e = Ending.returned (.int .i64 (Mt.tornN at' : Int)) ∧ w' = u) fun e w' hh => ⟨hh.1, hh.2.symm⟩)
        clear hd3 hg3 hb3 HT
        have HTE := Lib.hid (show ∀ a, Mt.pick keep torn at' k a b = b.take (Mt.tornN at') ++ a.drop (Mt.tornN at') from fun a => by unfold Mt.pick; rw [if_pos (by simpa using ht1)])
        generalize Mt.tornN at' = tn at *
        refine wp_region_still_tail 11 (by kernel_rfl) (by kernel_rfl) ?_
        simp only [List.take_succ_cons, List.take_zero, List.drop_succ_cons, List.drop_zero]
        repeat (first | still_step | still_call (HTT.out _))
        refine wpStill_nil ?_
        change wpList _ _ _ _ _ w3.drew
        have HDR := Lib.hid HD3.out.drew
        have hLi : (Lk.getD i []).length = 128 := by
          have e : Lk.getD i [] = Lk[i]'(by omega) := by simp [List.getD, List.getElem?_eq_getElem (show i < Lk.length by omega)]
          rw [e]; exact HD3.out.ok.lasts i (by show i < Lk.length; omega)
        have hX : (b.take tn ++ (Lk.getD i []).drop tn).length = 128 := by rw [List.length_append, List.length_take, List.length_drop, hLi, HBL.out]; omega
        have HT3 := Lib.hid (fun ty => HDR.out.tear i (by show i < Lk.length; omega) b HBL.out tn HTN n3 128 72 HG3.out ty)
        have HN := Lib.hid (HDR.out.setSecs (Lk.set i (b.take tn ++ (Lk.getD i []).drop tn)) (HDR.out.ok.putSec i _ hX) (by simp))
        have HO4 := Lib.hid ((HB3.out.drew).setRow (g := bl) (by simp) (flat (Lk.set i (b.take tn ++ (Lk.getD i []).drop tn))))
        have HTK2 : Hid (Mt.loseK keep torn at' d.waits 0 (K.take (k + 1)) d.lasts = Lk.set i (b.take tn ++ (Lk.getD i []).drop tn)) := Lib.hid (by rw [HTK.out, HTE.out])
        clear hLi hX HTK HTE HTT
        refine wpList_copy_run _ rfl (.tmp 36) (.tmp 40) 73 73 rfl _ _ rfl rfl HT3.out ?_
        dsimp only at HN HO4
        generalize (w3.drew.setRow bl (flat (Lk.set i (b.take tn ++ (Lk.getD i []).drop tn)))) = w4 at HN HO4 ⊢
        go_wp2_with fail
        go_roundw
        case rel => exact ⟨k + 1, by omega, by go_num, by rw [HTK2.out]; exact HN, HO4⟩
        case measure => simp [intOf]; omega
      · have ht1 : ((k : Int) == torn) = false := by simpa using htk
        have hki8 : (k : Int) ≤ 8192 := by omega
        have hmask : bits .and .u64 ((keep : Int) / 2 ^ (k % 64)) 1 = ((keep / 2 ^ (k % 64) % 2 : Nat) : Int) := by
          have hx : ((keep : Int) / 2 ^ (k % 64)) = ((keep / 2 ^ (k % 64) : Nat) : Int) := by simp
          have hle := Nat.div_le_self keep (2 ^ (k % 64))
          rw [hx]
          generalize keep / 2 ^ (k % 64) = x at *
          have h := bits_mask .u64 64 (by decide) (fun n h0 h1 => by rw [IntKind.wrap_u64]; omega) 1 (by decide) (x : Int) (by omega) (by omega)
          have e : ((x : Int) % 2) = ((x % 2 : Nat) : Int) := by omega
          rw [← e]
          simpa using h
        by_cases hq : keep / 2 ^ (k % 64) % 2 = 1
        · rw [hq] at hmask
          have HPK := Lib.hid (show ∀ a, Mt.pick keep torn at' k a b = b from fun a => by unfold Mt.pick; rw [if_neg htk, if_pos hq])
          clear hq htk
          go_wp2_with (first | (refine wpList_alloc_sec rfl rfl ?_; rw [hZ]) | (refine wpList_store_sec rfl _ _ rfl wr.heap.size _ _ rfl rfl HBL.out (heap_alloc_new _ _) HZ.out ?_; rw [setRow_alloc]))
          have hd3 := HDK.out.alloc (.cells (secCells b) 72)
          have hg3 := heap_alloc_new wr (.cells (secCells b) 72)
          have hb3 := HBK.out.alloc (.cells (secCells b) 72)
          generalize (wr.alloc (.cells (secCells b) 72)) = w3 at hd3 hg3 hb3 ⊢
          generalize wr.heap.size = n3 at *
          clear hl hc0 hc1 hp0 hp1 hp2 hcell HX HDK HBK
          have hc0 := hd3.c0
          dsimp only at hc0
          have HD3 := Lib.hid hd3
          have HB3 := Lib.hid hb3
          have HLD := Lib.hid (load_own w3.drew n3 b HBL.out hg3)
          clear hd3 hg3 hb3 HT
          refine wp_region_still_tail 7 (by kernel_rfl) (by kernel_rfl) ?_
          simp only [List.take_succ_cons, List.take_zero, List.drop_succ_cons, List.drop_zero]
          still_step
          still_step
          still_step
          still_step
          still_step
          refine wpStill_step (fun K hK => still_load5 rfl 72 (.tmp 6) rfl ⟨n3, 0, none⟩ (secV b) rfl HLD.out (hK _ ?_))
          clear hK K
          still_step
          refine wpStill_nil ?_
          change wpList _ _ _ _ _ w3.drew
          have HPT := Lib.hid (HD3.out.drew.put i (by show i < Lk.length; omega) b HBL.out)
          have HO4 := Lib.hid ((HB3.out.drew).setRow (g := bl) (by simp) (flat (Lk.set i b)))
          have HTK2 : Hid (Mt.loseK keep torn at' d.waits 0 (K.take (k + 1)) d.lasts = Lk.set i b) := Lib.hid (by rw [HTK.out, HPK.out])
          refine wpList_store_run rfl 72 (.tmp 56) (.tmp 55) rfl _ _ rfl rfl _ HPT.out.1 ?_
          have HN := Lib.hid HPT.out.2
          clear HPT HTK HPK
          dsimp only at HN HO4
          generalize (w3.drew.setRow bl (flat (Lk.set i b))) = w4 at HN HO4 ⊢
          go_wp2_with fail
          go_roundw
          case rel => exact ⟨k + 1, by omega, by go_num, by rw [HTK2.out]; exact HN, HO4⟩
          case measure => simp [intOf]; omega
        · have hq0 : keep / 2 ^ (k % 64) % 2 = 0 := by omega
          rw [hq0] at hmask
          have HPK := Lib.hid (show ∀ a, Mt.pick keep torn at' k a b = a from fun a => by unfold Mt.pick; rw [if_neg htk, if_neg hq])
          clear hq hq0 htk
          go_wp2_with (first | (refine wpList_alloc_sec rfl rfl ?_; rw [hZ]) | (refine wpList_store_sec rfl _ _ rfl wr.heap.size _ _ rfl rfl HBL.out (heap_alloc_new _ _) HZ.out ?_; rw [setRow_alloc]))
          have HN : Hid (IsDisk (wr.alloc (.cells (secCells b) 72)) B bl bm { d with lasts := Mt.loseK keep torn at' d.waits 0 (K.take (k + 1)) d.lasts }) := Lib.hid (by
            have e : Lk.set i (Lk.getD i []) = Lk := by
              have h1 : Lk.getD i [] = Lk[i]'(by omega) := by simp [List.getD, List.getElem?_eq_getElem (show i < Lk.length by omega)]
              rw [h1]; simp
            rw [HTK.out, HPK.out, e]
            exact HDK.out.alloc _)
          have HO4 := Lib.hid (HBK.out.alloc (.cells (secCells b) 72))
          clear hl hc0 hc1 hp0 hp1 hp2 hcell HX HDK HBK
          go_roundw
          case rel => exact ⟨k + 1, by omega, by go_num, HN, HO4⟩
          case measure => simp [intOf]; omega
    · obtain rfl : k = K.length := by omega
      have hge : ¬ ((K.length : Int) < (K.length : Int)) := by omega
      have HN : Hid (IsDisk wr B bl bm { d with lasts := Mt.loseAll keep torn at' d.waits d.lasts }) := Lib.hid (by
        have h := HDK.out
        rw [List.take_length] at h
        unfold Mt.loseAll
        rw [HKE.out]
        exact h)
      have hc1 := HN.out.c1
      have HO := Lib.hid (HB2.out.trans HBK.out)
      have HLL := Lib.hid (show (Mt.loseAll keep torn at' d.waits d.lasts).length = d.lasts.length from Mt.loseK_length ..)
      clear HDK hge HBK
      obtain ⟨u, hu, hdu, hou⟩ := HN.out.clear 0
      have hu' : ∀ ty, (Builtin.clear_ #[62] ty #[.map (some bm)]).run Tryz.prog wr = .ok (.tuple #[]) u := fun ty => hu
      have HU := Lib.hid hu'
      have HDU := Lib.hid hdu
      have HOU := Lib.hid (HO.out.trans hou)
      clear hu hu' hdu hou HN HI HL
      go_wp2_with (refine wpList_clear_run rfl _ rfl _ rfl u HU.out ?_)
      refine bodyPost_end (results_none rfl _ _ _) rfl ?_
      refine ⟨rfl, ?_, HOU.out⟩
      have h := HDU.out
      rw [HLL.out] at h
      exact h.setTears _

/-! ### Crash, and a call counted -/
theorem crash_nil (a b c : Int) (w : World) : Calls Tryz.prog 20 #[.pointer none, .agg #[.int .u64 a, .int .i64 b, .int .i64 c]] w fun e w' => e = .returned (.tuple #[]) ∧ Below w.heap.size w w' := by
  go_enter Tryz.func20, Tryz.ntmps20
  go_wp2
  refine bodyPost_ret (results_none rfl _ _ _) rfl ?_
  exact ⟨rfl, (Below.refl _ _).alloc (Nat.le_refl _) _⟩
set_option maxRecDepth 100000 in
theorem crash_any (h : IsDisk w B bl bm d) (keep : Nat) (torn at' : Int) (hk : keep < 18446744073709551616) (ht : -9223372036854775808 ≤ torn ∧ torn ≤ 9223372036854775807) (ha : -9223372036854775808 ≤ at' ∧ at' ≤ 9223372036854775807) :
    Calls Tryz.prog 20 #[.pointer (some ⟨B, 0, none⟩), .agg #[.int .u64 (keep : Int), .int .i64 torn, .int .i64 at']] w fun e w' => e = .returned (.tuple #[]) ∧ IsDisk w' B bl bm (d.crash keep torn at') ∧ OnlyS [B, bl, bm] w w' := by
  have HL := Lib.hid (fun o => lose_any (h.alloc o) keep torn at' hk ht ha)
  have HO : Hid (∀ o, OnlyS [B, bl, bm] w (w.alloc o)) := Lib.hid fun o => (OnlyS.refl _ _).alloc o
  clear h hk ht ha
  go_enter Tryz.func20, Tryz.ntmps20
  go_wp2_with fail
  refine (HL.out _).mono ?_
  rintro e w2 ⟨rfl, hd, ho⟩
  have HN := Lib.hid (on_any hd)
  have HO2 := Lib.hid ((HO.out _).trans ho)
  clear hd ho HL HO
  go_wp2_with fail
  refine (HN.out).mono ?_
  rintro e w3 ⟨rfl, hd, ho⟩
  have HD3 := Lib.hid hd
  have HO3 := Lib.hid (HO2.out.trans ho)
  clear hd ho
  go_wp2_with fail
  refine bodyPost_end (results_none rfl _ _ _) rfl ?_
  exact ⟨rfl, HD3.out, HO3.out⟩

set_option maxRecDepth 100000 in
theorem count_any (h : IsDisk w B bl bm d) : Calls Tryz.prog 80 #[.pointer (some ⟨B, 0, none⟩)] w fun e w' => e = .returned (.int .i64 d.count.2) ∧ IsDisk w' B bl bm d.count.1 ∧ OnlyS [B, bl, bm] w w' := by
  have h4 := h.c4
  have h5 := h.c5
  have h6 := h.c6
  have h7 := h.c7
  have f4 := h.f 4
  have HD := Lib.hid h
  have o := h.ok
  have hc := o.cut
  by_cases h0 : d.cut = 0
  · have e : d.count = (d, 0) := by unfold Mt.Dk.count; rw [if_pos h0]
    have h0' : ((d.cut : Int) == 0) = true := by simpa using h0
    rw [e]
    clear e h o h0
    generalize d.cut = c at *
    go_enter Tryz.func80, Tryz.ntmps80
    go_wp2
    go_ret
    exact ⟨rfl, HD.out, OnlyS.refl _ _⟩
  · have h0' : ((d.cut : Int) == 0) = false := by simpa using h0
    by_cases h1 : d.cut = 1
    · have e : d.count = ({ ({ d with cut := 0 } : Mt.Dk).lose d.keep d.torn d.at' with off := true }, 10) := by unfold Mt.Dk.count; rw [if_neg h0, if_pos h1]
      rw [e]
      have hs := h.set 4 (.int .i64 0) { d with cut := 0 } (o.setCut 0 (by omega)) rfl rfl rfl
      have HL := Lib.hid (lose_any hs d.keep d.torn d.at' o.keep o.torn o.at')
      have HO := Lib.hid ((OnlyS.refl [B, bl, bm] w).setCell (g := B) (i := 4) (by simp) (.int .i64 0))
      have h1' : (d.cut : Int) = 1 := by omega
      rw [h1'] at h4 h0'
      clear e h o h0 h1 hs h1' hc HD
      go_enter Tryz.func80, Tryz.ntmps80
      go_wp2_with fail
      refine (HL.out).mono ?_
      rintro e w2 ⟨rfl, hd, ho⟩
      have HO2 := Lib.hid (HO.out.trans ho)
      have HD2 := Lib.hid hd
      have h3 := hd.c3
      have f3 := hd.f 3
      clear hd ho HL HO h4 h5 h6 h7 f4
      go_wp2_with fail
      go_ret
      refine ⟨rfl, ?_, HO2.out.setCell (g := B) (i := 3) (by simp) _⟩
      exact HD2.out.set 3 (.bool true) _ (HD2.out.ok.setOff true) rfl rfl rfl
    · have e : d.count = ({ d with cut := d.cut - 1 }, 0) := by unfold Mt.Dk.count; rw [if_neg h0, if_neg h1]
      rw [e]
      have HS := Lib.hid (h.set 4 (.int .i64 ((d.cut : Int) - 1)) { d with cut := d.cut - 1 } (o.setCut _ (by omega)) rfl rfl (by unfold dkCells; simp; omega))
      have HO := Lib.hid ((OnlyS.refl [B, bl, bm] w).setCell (g := B) (i := 4) (by simp) (.int .i64 ((d.cut : Int) - 1)))
      have hg : (0 : Int) < (d.cut : Int) - 1 := by omega
      have hw0 : IntKind.i64.wrap ((d.cut : Int) - 1) = (d.cut : Int) - 1 := IntWalk.i64_in _ (by omega)
      clear e h o h0 h1
      generalize d.cut = c at *
      go_enter Tryz.func80, Tryz.ntmps80
      go_wp2
      go_ret
      exact ⟨rfl, HS.out, HO.out⟩
end
end Go.Proofs.YtnioagojiipjlaaGreat
