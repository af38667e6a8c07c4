/-
  Some texts of one proof, one behind the other.
-/
import Derived.Test.YtngdbhncafnliaaGreatPk5
import Derived.Test.YtngdbhncafnliaaGreatPk42
import Derived.Test.YtngdbhncafnliaaGreatPk43
set_option linter.unusedVariables false
set_option linter.unusedSimpArgs false

/-
  A schema as it is built: types, then classes, each behind the ones that there are.
-/
namespace Go.Proofs.YtngdbhncafnliaaGreat
open Go.RowKit

theorem Tryz.infoTy13 : (Tryz.prog.info? 71).map (fun i => (i.zero, i.size, i.bytes)) = some (some (.agg #[.string ByteArray.empty, .int .i64 0, .bool false, .bool false]), 4, 32) := by kernel_rfl
theorem Tryz.infoOc13 : (Tryz.prog.info? 73).map (fun i => (i.zero, i.size, i.bytes)) = some (some (.agg #[.string ByteArray.empty, .string ByteArray.empty, .int .i64 0, .slice none 0 0, .slice none 0 0]), 5, 88) := by kernel_rfl
theorem OnlyS.next13 {g g' : Nat} {a b c : World} (h : OnlyS [g] a b) (hg : g' = g ∨ a.heap.size ≤ g') (h2 : OnlyS [g'] b c) : OnlyS [g] a c :=
  ⟨h2.os.trans h.os, h2.tape.trans h.tape, h2.output.trans h.output, Nat.le_trans h.size h2.size, fun k hk hS => by
    simp only [List.mem_singleton] at hS
    refine (h2.block k (Nat.lt_of_lt_of_le hk h.size) ?_).trans (h.block k hk (by simpa using hS))
    simp only [List.mem_singleton]
    rcases hg with rfl | hg
    · exact hS
    · omega⟩
/-- An append whose run is known. -/
theorem oper_append13 {P : Program} {o : Oper} {a : Act} {w : World} {K : Act → World → Prop} {Q : Exit → Act → World → Prop}
    (s x : Operand) (t t' : TypeId) (hop : o.op = Op.call { callee := Callee.builtin Builtin.append, args := #[s, x], argTypes := #[t, t'] })
    (v u : Value) (hs : a.eval s = v) (hx : a.eval x = u) (w0 : World) (hw : w = w0) {v' : Value} {w' : World} (hr : ∀ ty, (Builtin.append_ #[t, t'] ty #[v, u]).run P w0 = .ok v' w')
    (hK : K (a.put o.dst v') w') : Oper.wp P o a w K Q := by
  subst hw
  unfold Oper.wp
  simp [execOp, hop, resolve, invoke, builtin, hs, hx, hr, Result.andThen]
  exact hK
/-- One element more, in a row. -/
theorem rw_push13 {E T tx : TypeId} {s by' g n : Nat} {w : World} {v : Value} {xs : List Value} {i : TypeInfo} {z : Value} (ht : Tryz.prog.underlying T = some (.slice E)) (htx : Tryz.prog.underlying tx = some (.slice E)) (hi : Tryz.prog.info? E = some i) (hz : i.zero = some z) (hs : i.size = s) (hby : i.bytes = by') (hzs : z.cells.size = s)
    (h : IsRw E s w g v n xs) (h1 : ∀ u ∈ xs, u.oneCell' = true) (cells : Array Value) (hc : cells.size = s) (hc1 : ∀ u ∈ cells.toList, u.oneCell' = true) (hfit : (n + 1) * by' ≤ 140737488355328) (h63 : n + 1 ≤ 4611686018427387904) :
    ∃ a' c' w' g', (∀ ty, (Builtin.append_ #[T, tx] ty #[v, .slice (some ⟨w.heap.size, 0, none⟩) 1 1]).run Tryz.prog (w.alloc (.cells cells E)) = .ok (.slice a' (n + 1) c') w') ∧ IsRw E s w' g' (.slice a' (n + 1) c') (n + 1) (xs ++ cells.toList) ∧ (g' = g ∨ w.heap.size ≤ g') ∧ OnlyS [g] w w' := by
  have h := h.below ((Below.refl w.heap.size w).alloc (Nat.le_refl _) (.cells cells E))
  have hbel := (OnlyS.refl [g] w).alloc (.cells cells E)
  have src : Src Tryz.prog i.size tx (.slice (some ⟨w.heap.size, 0, none⟩) 1 1) 1 cells.toList (w.alloc (.cells cells E)) :=
    Src.ofSlice _ htx ⟨w.heap.size, 0, none⟩ 1 1 _ (by rw [hs, Array.length_toList, hc, Nat.one_mul]) (fun j u hu => by
      rw [add_off, cell_of_row _ w.heap.size _ _ _ _ (heap_alloc_new w _), Nat.zero_add]
      simpa using hu) hc1
  obtain ⟨v', w', g', hrun, hrw, hg', ho⟩ := rw_append (T := T) (tx := tx) ht hi hz hs hby hzs h h1 _ 1 cells.toList src hfit h63
  obtain ⟨a', c', rfl⟩ := hrw.form
  have hsz : (w.alloc (.cells cells E)).heap.size = w.heap.size + 1 := by simp
  refine ⟨a', c', w', g', hrun, hrw, ?_, hbel.trans ho⟩
  rcases hg' with rfl | rfl
  · exact .inl rfl
  · exact .inr (by rw [hsz]; omega)
theorem tyCells_app (a b : List Mt.Ty) : tyCells (a ++ b) = tyCells a ++ tyCells b := by simp [tyCells]
theorem tyCells_len (a : List Mt.Ty) : (tyCells a).length = a.length * 4 := by
  induction a with
  | nil => rfl
  | cons x r ih => simp only [tyCells, List.flatMap_cons, List.length_append, List.length_cons, List.length_nil] at *; omega
theorem tyCells_one (a : List Mt.Ty) : ∀ u ∈ tyCells a, u.oneCell' = true := by
  intro u hu
  simp only [tyCells, List.mem_flatMap, List.mem_cons, List.not_mem_nil, or_false] at hu
  obtain ⟨t, _, rfl | rfl | rfl | rfl⟩ := hu <;> rfl
theorem clCells_app (a b : List (Mt.Cl × Value × Value)) : clCells (a ++ b) = clCells a ++ clCells b := by simp [clCells]
/-- Types of one syntax. -/
def Mt.tysOf (k : Int) (ns : List (List UInt8)) : List Mt.Ty := ns.map fun n => ⟨n, k, false, false⟩
set_option maxRecDepth 100000 in
set_option maxHeartbeats 2000000 in
theorem types13_any {w : World} {g b : Nat} {v : Value} {L : List Mt.Ty} {ns : List (List UInt8)} {k : Int} (h : IsRw 71 4 w g v L.length (tyCells L)) (hb : w.heap[b]? = some (.cells (nms ns).toArray 9)) (hne : b ≠ g) (hn : L.length + ns.length ≤ 1000) :
    Calls Tryz.prog 25 #[v, .int .i64 k, .slice (some ⟨b, 0, none⟩) ns.length ns.length] w fun e w' => ∃ v' g', e = .returned v' ∧ IsRw 71 4 w' g' v' (L.length + ns.length) (tyCells (L ++ Mt.tysOf k ns)) ∧ (g' = g ∨ w.heap.size ≤ g') ∧ OnlyS [g] w w' := by
  obtain ⟨i0, hi, hz0, hz1, hz2⟩ := info_parts Tryz.infoTy13
  have HI := Lib.hid (And.intro hi (And.intro hz0 (And.intro hz1 hz2)))
  obtain ⟨a, c, rfl⟩ := h.form
  have hbl := lt_of_block hb
  have HBN := Lib.hid (And.intro hb (And.intro hne hbl))
  obtain ⟨n, hns⟩ : ∃ n, ns.length = n := ⟨_, rfl⟩
  obtain ⟨l, hll⟩ : ∃ n, L.length = n := ⟨_, rfl⟩
  have HNS := Lib.hid (And.intro hns hll)
  rw [hns, hll] at hn ⊢
  rw [hll] at h
  have H0 := Lib.hid h
  clear h hb hne hi hz0 hz1 hz2 hns hll
  go_enter Tryz.func25, Tryz.ntmps25
  go_wp2_with fail
  go_loopw [0, 11] (fun v iv wr => ∃ (i : Nat) (a : Option Addr) (c : Nat), i ≤ n ∧ iv = .int .i64 (i : Int) ∧ v = .slice a (l + i) c ∧ Hid (∃ g', IsRw 71 4 wr g' (.slice a (l + i) c) (l + i) (tyCells (L ++ Mt.tysOf k (ns.take i))) ∧ (g' = g ∨ w.heap.size ≤ g')) ∧ Hid (OnlyS [g] w wr)) (fun _ iv _ => n - (intOf iv).toNat)
  case atStart => exact ⟨0, a, c, Nat.zero_le _, rfl, rfl, Lib.hid ⟨g, by simpa [Mt.tysOf] using H0.out, .inl rfl⟩, Lib.hid (OnlyS.refl _ _)⟩
  case round =>
    obtain ⟨i, a2, c2, hi, rfl, rfl, HR, HO⟩ := hrel
    by_cases hlt : i < n
    · have e1 : decide ((i : Int) < (n : Int)) = true := decide_eq_true (by omega)
      have e2 : decide (i < n) = true := decide_eq_true hlt
      have hit : i < ns.length := by rw [HNS.out.1]; exact hlt
      have hrow := (HO.out.block b HBN.out.2.2 (by simpa using HBN.out.2.1)).trans HBN.out.1
      have x0 : wr.cell? ⟨b, 0 + i, none⟩ = some (.string (Mt.str ns[i])) := by
        rw [cell_of_row _ _ _ _ _ _ hrow, List.getElem?_toArray]
        simp [nms, hit]
      rw [Nat.zero_add] at x0
      have i4 : (0 : Int) ≤ (i : Int) := by omega
      have i5 : (i : Int) < (n : Int) := by omega
      obtain ⟨g', hrw, hg'⟩ := HR.out
      obtain ⟨a3, c3, w3, g3, hrun, hrw3, hg3, ho3⟩ := rw_push13 (T := 32) (tx := 32) Tryz.underlying32 Tryz.underlying32 HI.out.1 HI.out.2.1 HI.out.2.2.1 HI.out.2.2.2 rfl hrw (tyCells_one _) #[.string (Mt.str ns[i]), .int .i64 k, .bool false, .bool false] rfl (by simp [Value.oneCell']) (by omega) (by omega)
      have hz : (tyCells (L ++ Mt.tysOf k (ns.take i))) ++ (#[Value.string (Mt.str ns[i]), .int .i64 k, .bool false, .bool false] : Array Value).toList = tyCells (L ++ Mt.tysOf k (ns.take (i + 1))) := by
        have e : L ++ Mt.tysOf k (ns.take (i + 1)) = (L ++ Mt.tysOf k (ns.take i)) ++ [⟨ns[i], k, false, false⟩] := by
          unfold Mt.tysOf
          rw [List.take_succ_eq_append_getElem hit, List.map_append, List.append_assoc]; rfl
        rw [e, tyCells_app (L ++ Mt.tysOf k (ns.take i)) [_]]; rfl
      rw [hz] at hrw3
      have HR3 : Hid (∃ g', IsRw 71 4 w3 g' (.slice a3 (l + (i + 1)) c3) (l + (i + 1)) (tyCells (L ++ Mt.tysOf k (ns.take (i + 1)))) ∧ (g' = g ∨ w.heap.size ≤ g')) := Lib.hid ⟨g3, hrw3, by
        rcases hg3 with rfl | hg3
        · exact hg'
        · exact .inr (Nat.le_trans HO.out.size hg3)⟩
      have HO3 : Hid (OnlyS [g] w w3) := Lib.hid (HO.out.next13 hg' ho3)
      generalize Mt.str ns[i] = N at *
      clear hrow hrw hg' hrw3 hg3 ho3 hz hit
      go_wp2_with (refine wpList_append_run rfl _ _ 32 32 rfl _ _ rfl rfl hrun ?_)
      go_roundw
      case rel => exact ⟨i + 1, a3, c3, by omega, by go_num, rfl, HR3, HO3⟩
      case measure => simp [intOf]; omega
    · obtain rfl : i = n := by omega
      have e1 : decide ((i : Int) < (i : Int)) = false := decide_eq_false (by omega)
      have e2 : decide (i < i) = false := decide_eq_false (by omega)
      have HF : Hid (∃ g', IsRw 71 4 wr g' (.slice a2 (l + i) c2) (l + i) (tyCells (L ++ Mt.tysOf k ns)) ∧ (g' = g ∨ w.heap.size ≤ g')) := Lib.hid (by
        obtain ⟨g', h1, h2⟩ := HR.out
        rw [List.take_of_length_le (by rw [HNS.out.1]; exact Nat.le_refl _)] at h1
        exact ⟨g', h1, h2⟩)
      go_wp2_with fail
      go_ret
      obtain ⟨g', h1, h2⟩ := HF.out
      exact ⟨_, g', rfl, h1, h2, HO.out⟩
theorem IsRw.lt13 {E : TypeId} {s g n : Nat} {w : World} {v : Value} {xs : List Value} (h : IsRw E s w g v n xs) (hn : n ≠ 0) : g < w.heap.size := by
  rcases h.2 with ⟨h0, _⟩ | ⟨off, cap, cur, e1, e2, e3, e4⟩
  · exact absurd h0 hn
  · exact lt_of_block e2
/-- While types are laid: the schema lies behind D. -/
def P1 (D : Nat) (w u : World) (tv : Value) (L : List Mt.Ty) : Prop := ∃ g, u.heap[D + 1]? = some (.cells #[tv, .slice none 0 0] 35) ∧ IsRw 71 4 u g tv L.length (tyCells L) ∧ (L = [] ∧ tv = .slice none 0 0 ∨ D + 1 < g ∧ g < u.heap.size) ∧ u.heap[D]? = some (.cells #[.slice none 0 0, .slice none 0 0] 35) ∧ Below D w u
theorem P1.cells {D : Nat} {w u : World} {tv : Value} {L : List Mt.Ty} (h : P1 D w u tv L) : u.cell? ⟨D + 1, 0, none⟩ = some tv ∧ u.cell? ⟨D + 1, 1, none⟩ = some (.slice none 0 0) ∧ D + 1 < u.heap.size ∧ Below D w u := by
  obtain ⟨g, h1, -, -, -, h5⟩ := h
  exact ⟨by rw [cell_of_row _ _ _ _ _ _ h1]; rfl, by rw [cell_of_row _ _ _ _ _ _ h1]; rfl, lt_of_block h1, h5⟩
theorem P1.next {D : Nat} {w u u' : World} {tv : Value} {L : List Mt.Ty} (h : P1 D w u tv L) (hb : Below u.heap.size u u') : P1 D w u' tv L := by
  obtain ⟨g, h1, h2, h3, h4, h5⟩ := h
  have hs := lt_of_block h1
  exact ⟨g, (hb.block _ hs).trans h1, h2.below hb, h3.imp id (fun h => ⟨h.1, Nat.lt_of_lt_of_le h.2 hb.size⟩), (hb.block _ (by omega)).trans h4, h5.trans (hb.mono (by omega))⟩
/-- The row; where there is none, a place that nothing has. -/
theorem P1.row {D : Nat} {w u : World} {tv : Value} {L : List Mt.Ty} (h : P1 D w u tv L) : ∃ g, IsRw 71 4 u g tv L.length (tyCells L) ∧ D + 1 < g ∧ g ≠ u.heap.size ∧ (u.heap.size < g ∨ ∃ cur, u.heap[g]? = some (Obj.cells cur 71 (0, 0))) := by
  obtain ⟨g, h1, h2, h3, h4, h5⟩ := h
  have hs := lt_of_block h1
  rcases h2.2 with ⟨e0, rfl⟩ | ⟨off, cap, cur, e1, e2, _, _⟩
  · have : L = [] := List.eq_nil_of_length_eq_zero e0
    subst this
    exact ⟨u.heap.size + 6, IsRw.nil _ _ _ _, by omega, by omega, .inl (by omega)⟩
  · rcases h3 with ⟨_, rfl⟩ | h3
    · cases e1
    · exact ⟨g, h2, h3.1, by omega, .inr ⟨cur, e2⟩⟩
theorem P1.store {D g g' : Nat} {w u u1 w' : World} {tv v' : Value} {L L' : List Mt.Ty} (h : P1 D w u tv L) (hu : Below u.heap.size u u1) (hg : D + 1 < g) (ho : OnlyS [g] u1 w') (hr : IsRw 71 4 w' g' v' L'.length (tyCells L')) (hg' : g' = g ∨ u1.heap.size ≤ g') (hL : L' ≠ []) :
    w'.cell? ⟨D + 1, 0, none⟩ = some tv ∧ w'.frozen? ⟨D + 1, 0, none⟩ = false ∧ P1 D w (w'.setCell ⟨D + 1, 0, none⟩ v') v' L' ∧ ∀ b, b < u1.heap.size → b ≠ g → b ≠ D + 1 → (w'.setCell ⟨D + 1, 0, none⟩ v').heap[b]? = u1.heap[b]? := by
  obtain ⟨_, h1, -, -, h4, h5⟩ := h
  have hs := lt_of_block h1
  have hs1 : D + 1 < u1.heap.size := Nat.lt_of_lt_of_le hs hu.size
  have r1 : w'.heap[D + 1]? = some (.cells #[tv, .slice none 0 0] 35) := (ho.block _ hs1 (by simp; omega)).trans ((hu.block _ hs).trans h1)
  have r0 : w'.heap[D]? = some (.cells #[.slice none 0 0, .slice none 0 0] 35) := (ho.block _ (by omega) (by simp; omega)).trans ((hu.block _ (by omega)).trans h4)
  have hgl := hr.lt13 (by rw [Ne, List.length_eq_zero_iff]; exact hL)
  have hgD : D + 1 < g' := by rcases hg' with rfl | h <;> omega
  refine ⟨by rw [cell_of_row _ _ _ _ _ _ r1]; rfl, frozen_of_row _ _ 0 _ _ r1, ⟨g', ?_, hr.kept (heap_setCell_other _ _ _ _ (fun e => by simp at e; omega)), .inr ⟨hgD, by simpa using hgl⟩, (heap_setCell_other _ _ _ _ (fun e => by simp at e)).trans r0, ?_⟩, fun b hb hbg hbD => (heap_setCell_other _ _ _ _ (fun e => hbD (by simpa using e))).trans (ho.block b hb (by simpa using hbg))⟩
  · have := heap_setCell_same w' (D + 1) 0 _ 35 v' r1
    exact this
  · exact ((h5.trans (hu.mono (by omega))).trans (ho.toBelow (by simp; omega) (by omega))).setCell (p := ⟨D + 1, 0, none⟩) (by simp) v'
/-- Types of one syntax more. -/
theorem P1.types {D : Nat} {w u : World} {tv : Value} {L : List Mt.Ty} (h : P1 D w u tv L) (ns : List (List UInt8)) (k : Int) (cs : Array Value) (hcs : cs = (nms ns).toArray) (m : Nat) (hm : m = ns.length) (hn : L.length + ns.length ≤ 1000) (hns : ns ≠ []) :
    Calls Tryz.prog 25 #[tv, .int .i64 k, .slice (some ⟨u.heap.size, 0, none⟩) m m] (u.alloc (.cells cs 9)) fun e w' => ∃ a' n' c', e = .returned (.slice a' n' c') ∧ w'.cell? ⟨D + 1, 0, none⟩ = some tv ∧ w'.frozen? ⟨D + 1, 0, none⟩ = false ∧ P1 D w (w'.setCell ⟨D + 1, 0, none⟩ (.slice a' n' c')) (.slice a' n' c') (L ++ Mt.tysOf k ns) := by
  subst hcs hm
  obtain ⟨g, hr, hg, hne, hgr⟩ := h.row
  have hu : Below u.heap.size u (u.alloc (.cells (nms ns).toArray 9)) := (Below.refl _ u).alloc (Nat.le_refl _) _
  refine (types13_any (hr.below hu) (heap_alloc_new u _) (Ne.symm hne) hn).mono ?_
  rintro e w' ⟨v', g', rfl, hr', hg', ho⟩
  have hl : (L ++ Mt.tysOf k ns).length = L.length + ns.length := by simp [Mt.tysOf]
  rw [← hl] at hr'
  obtain ⟨s1, s2, s3, -⟩ := h.store hu hg ho hr' hg' (by simp [Mt.tysOf, hns])
  obtain ⟨a', c', rfl⟩ := hr'.form
  exact ⟨a', _, c', rfl, s1, s2, s3⟩
/-- One type more. -/
theorem P1.push {D : Nat} {w u : World} {tv : Value} {L : List Mt.Ty} (h : P1 D w u tv L) (t : Mt.Ty) (N : ByteArray) (hN : N = Mt.str t.name) (k : Int) (hk : k = t.syn) (sg op : Bool) (hsg : sg = t.single) (hop : op = t.oper) (hn : L.length ≤ 1000) :
    ∃ a' n' c' w', (∀ ty, (Builtin.append_ #[32, 32] ty #[tv, .slice (some ⟨u.heap.size, 0, none⟩) 1 1]).run Tryz.prog (u.alloc (.cells #[.string N, .int .i64 k, .bool sg, .bool op] 71)) = .ok (.slice a' n' c') w') ∧ w'.cell? ⟨D + 1, 0, none⟩ = some tv ∧ w'.frozen? ⟨D + 1, 0, none⟩ = false ∧ P1 D w (w'.setCell ⟨D + 1, 0, none⟩ (.slice a' n' c')) (.slice a' n' c') (L ++ [t]) ∧ ∀ (b : Nat) (cs : Array Value), u.heap[b]? = some (Obj.cells cs 9) → (w'.setCell ⟨D + 1, 0, none⟩ (.slice a' n' c')).heap[b]? = some (Obj.cells cs 9) := by
  subst hN hk hsg hop
  obtain ⟨i0, hi, hz0, hz1, hz2⟩ := info_parts Tryz.infoTy13
  obtain ⟨g, hr, hg, hne, hgr⟩ := h.row
  obtain ⟨a', c', w', g', hrun, hr', hg', ho⟩ := rw_push13 (T := 32) (tx := 32) Tryz.underlying32 Tryz.underlying32 hi hz0 hz1 hz2 rfl hr (tyCells_one _) #[.string (Mt.str t.name), .int .i64 t.syn, .bool t.single, .bool t.oper] rfl (by simp [Value.oneCell']) (by omega) (by omega)
  have e : tyCells L ++ (#[Value.string (Mt.str t.name), .int .i64 t.syn, .bool t.single, .bool t.oper] : Array Value).toList = tyCells (L ++ [t]) := by rw [tyCells_app]; rfl
  rw [e] at hr'
  have hl : (L ++ [t]).length = L.length + 1 := by simp
  obtain ⟨s1, s2, s3, s4⟩ := h.store (Below.refl _ u) hg ho (by rw [hl]; exact hr') hg' (by simp)
  refine ⟨a', _, c', w', hrun, s1, s2, s3, fun b cs hb => ?_⟩
  obtain ⟨g0, h1, -⟩ := h
  refine (s4 b (lt_of_block hb) (fun e => ?_) (fun e => ?_)).trans hb
  · subst e
    rcases hgr with h | ⟨cur, e2⟩
    · have := lt_of_block hb; omega
    · rw [e2] at hb
      injection hb with hb
      injection hb with _ hb
      exact absurd hb (by decide)
  · subst e
    rw [h1] at hb
    injection hb with hb
    injection hb with _ hb
    exact absurd hb (by decide)
/-- Names in a row of their own, from a place on. -/
def NewN (lo : Nat) (u : World) (v : Value) (l : List (List UInt8)) : Prop := (v = .slice none 0 0 ∧ l = []) ∨ ∃ b, lo ≤ b ∧ v = .slice (some ⟨b, 0, none⟩) l.length l.length ∧ u.heap[b]? = some (.cells (nms l).toArray 9)
/-- .. in none of these rows. -/
def RowN (D gT gC : Nat) (u : World) (v : Value) (l : List (List UInt8)) : Prop := (v = .slice none 0 0 ∧ l = []) ∨ ∃ b, (D + 1 < b ∧ b ≠ gT ∧ b ≠ gC) ∧ v = .slice (some ⟨b, 0, none⟩) l.length l.length ∧ u.heap[b]? = some (.cells (nms l).toArray 9)
theorem RowN.nms {D gT gC : Nat} {u : World} {v : Value} {l : List (List UInt8)} (h : RowN D gT gC u v l) : IsNms u v l := by
  rcases h with ⟨rfl, rfl⟩ | ⟨b, -, rfl, h⟩
  · exact nms_none u
  · exact nms_of_row h rfl
theorem RowN.kept {D gT gC gC' : Nat} {u u' : World} {v : Value} {l : List (List UInt8)} (h : RowN D gT gC u v l) (hb : ∀ b, D + 1 < b → b ≠ gT → b ≠ gC → b < u.heap.size → u'.heap[b]? = u.heap[b]? ∧ b ≠ gC') : RowN D gT gC' u' v l := by
  rcases h with h | ⟨b, ⟨h1, h2, h3⟩, h4, h5⟩
  · exact .inl h
  · obtain ⟨e1, e2⟩ := hb b h1 h2 h3 (lt_of_block h5)
    exact .inr ⟨b, ⟨h1, h2, e2⟩, h4, e1.trans h5⟩
/-- While classes are laid. -/
def P2 (D : Nat) (w u : World) (tv : Value) (T : List Mt.Ty) (cv : Value) (C : List (Mt.Cl × Value × Value)) : Prop := ∃ gT gC, u.heap[D + 1]? = some (.cells #[tv, cv] 35) ∧ IsRw 71 4 u gT tv T.length (tyCells T) ∧ (D + 1 < gT ∧ gT < u.heap.size) ∧ IsRw 73 5 u gC cv C.length (clCells C) ∧ (C = [] ∧ cv = .slice none 0 0 ∨ D + 1 < gC ∧ gC < u.heap.size ∧ gC ≠ gT) ∧ (∀ p ∈ C, RowN D gT gC u p.2.1 p.1.must ∧ RowN D gT gC u p.2.2 p.1.may) ∧ u.heap[D]? = some (.cells #[.slice none 0 0, .slice none 0 0] 35) ∧ Below D w u
theorem P1.done {D : Nat} {w u : World} {tv : Value} {T : List Mt.Ty} (h : P1 D w u tv T) (hT : T ≠ []) : P2 D w u tv T (.slice none 0 0) [] := by
  obtain ⟨g, h1, h2, h3, h4, h5⟩ := h
  rcases h3 with ⟨rfl, -⟩ | h3
  · exact absurd rfl hT
  · exact ⟨g, 0, h1, h2, h3, IsRw.nil _ _ _ _, .inl ⟨rfl, rfl⟩, by simp, h4, h5⟩
theorem P2.cells {D : Nat} {w u : World} {tv cv : Value} {T : List Mt.Ty} {C : List (Mt.Cl × Value × Value)} (h : P2 D w u tv T cv C) : u.cell? ⟨D + 1, 0, none⟩ = some tv ∧ u.cell? ⟨D + 1, 1, none⟩ = some cv ∧ D + 1 < u.heap.size ∧ Below D w u := by
  obtain ⟨_, _, h1, -, -, -, -, -, -, h5⟩ := h
  exact ⟨by rw [cell_of_row _ _ _ _ _ _ h1]; rfl, by rw [cell_of_row _ _ _ _ _ _ h1]; rfl, lt_of_block h1, h5⟩
theorem P2.res {D : Nat} {w u : World} {tv cv : Value} {T : List Mt.Ty} {C : List (Mt.Cl × Value × Value)} (h : P2 D w u tv T cv C) : u.heap[D]? = some (.cells #[.slice none 0 0, .slice none 0 0] 35) := by
  obtain ⟨_, _, -, -, -, -, -, -, h7, -⟩ := h
  exact h7
theorem clCells_one {u : World} {C : List (Mt.Cl × Value × Value)} {D gT gC : Nat} (h : ∀ p ∈ C, RowN D gT gC u p.2.1 p.1.must ∧ RowN D gT gC u p.2.2 p.1.may) : ∀ x ∈ clCells C, x.oneCell' = true := by
  intro x hx
  simp only [clCells, List.mem_flatMap, List.mem_cons, List.not_mem_nil, or_false] at hx
  obtain ⟨p, hp, rfl | rfl | rfl | rfl | rfl⟩ := hx
  · rfl
  · rfl
  · rfl
  · rcases (h p hp).1 with ⟨e, _⟩ | ⟨b, _, e, _⟩ <;> rw [e] <;> rfl
  · rcases (h p hp).2 with ⟨e, _⟩ | ⟨b, _, e, _⟩ <;> rw [e] <;> rfl
theorem NewN.one {lo : Nat} {u : World} {v : Value} {l : List (List UInt8)} (h : NewN lo u v l) : v.oneCell' = true := by
  rcases h with ⟨rfl, _⟩ | ⟨b, _, rfl, _⟩ <;> rfl
/-- One class more. -/
theorem P2.push {D : Nat} {w u u2 : World} {tv cv : Value} {T : List Mt.Ty} {C : List (Mt.Cl × Value × Value)} (h : P2 D w u tv T cv C) (hu : Below u.heap.size u u2) (c : Mt.Cl) (mv yv : Value) (hm : NewN u.heap.size u2 mv c.must) (hy : NewN u.heap.size u2 yv c.may) (N U : ByteArray) (hN : N = Mt.str c.name) (hU : U = Mt.str c.sup) (k : Int) (hk : k = c.kind) (hn : C.length ≤ 1000) :
    ∃ a' n' c' w', (∀ ty, (Builtin.append_ #[33, 33] ty #[cv, .slice (some ⟨u2.heap.size, 0, none⟩) 1 1]).run Tryz.prog (u2.alloc (.cells #[.string N, .string U, .int .i64 k, mv, yv] 73)) = .ok (.slice a' n' c') w') ∧ w'.cell? ⟨D + 1, 1, none⟩ = some cv ∧ w'.frozen? ⟨D + 1, 1, none⟩ = false ∧ P2 D w (w'.setCell ⟨D + 1, 1, none⟩ (.slice a' n' c')) tv T (.slice a' n' c') (C ++ [(c, mv, yv)]) := by
  subst hN hU hk
  obtain ⟨i0, hi, hz0, hz1, hz2⟩ := info_parts Tryz.infoOc13
  obtain ⟨gT, gC, h1, h2, h3, h4, h5, h6, h7, h8⟩ := h
  have hs := lt_of_block h1
  -- the place of the row of classes: where there is none, one that nothing has
  obtain ⟨g, hr, hg, hgT, hnew⟩ : ∃ g, IsRw 73 5 u g cv C.length (clCells C) ∧ D + 1 < g ∧ g ≠ gT ∧ (∀ p ∈ C, RowN D gT g u p.2.1 p.1.must ∧ RowN D gT g u p.2.2 p.1.may) ∧ (g < u.heap.size ∨ u2.heap.size < g) := by
    rcases h5 with ⟨rfl, rfl⟩ | h5
    · exact ⟨u2.heap.size + 6, IsRw.nil _ _ _ _, by have := hu.size; omega, by have := hu.size; omega, by simp, .inr (by omega)⟩
    · exact ⟨gC, h4, h5.1, h5.2.2, h6, .inl h5.2.1⟩
  obtain ⟨hnm, hgs⟩ := hnew
  obtain ⟨a', c', w', g', hrun, hr', hg', ho⟩ := rw_push13 (T := 33) (tx := 33) Tryz.underlying33 Tryz.underlying33 hi hz0 hz1 hz2 rfl (hr.below hu) (clCells_one hnm) #[.string (Mt.str c.name), .string (Mt.str c.sup), .int .i64 c.kind, mv, yv] rfl (by
    simp only [List.mem_cons, List.not_mem_nil, or_false]
    rintro x (rfl | rfl | rfl | rfl | rfl)
    · rfl
    · rfl
    · rfl
    · exact hm.one
    · exact hy.one) (by omega) (by omega)
  have e : clCells C ++ (#[Value.string (Mt.str c.name), .string (Mt.str c.sup), .int .i64 c.kind, mv, yv] : Array Value).toList = clCells (C ++ [(c, mv, yv)]) := by rw [clCells_app]; rfl
  rw [e] at hr'
  have hl : (C ++ [(c, mv, yv)]).length = C.length + 1 := by simp
  have hgl := hr'.lt13 (by omega)
  have hus := hu.size
  have hgD : D + 1 < g' := by rcases hg' with rfl | h <;> omega
  have hgT' : g' ≠ gT := by rcases hg' with rfl | h <;> omega
  have hkeep : ∀ b, b < u.heap.size → b ≠ g → w'.heap[b]? = u.heap[b]? := fun b hb hbg => (ho.block b (by omega) (by simpa using hbg)).trans (hu.block b hb)
  have r1 := (hkeep (D + 1) hs (by omega)).trans h1
  have r0 := (hkeep D (by omega) (by omega)).trans h7
  have other : ∀ b, b ≠ D + 1 → (w'.setCell ⟨D + 1, 1, none⟩ (.slice a' (C.length + 1) c')).heap[b]? = w'.heap[b]? := fun b hb => heap_setCell_other _ _ _ _ (fun e => hb (by simpa using e))
  have newRow : ∀ v l, NewN u.heap.size u2 v l → RowN D gT g' (w'.setCell ⟨D + 1, 1, none⟩ (.slice a' (C.length + 1) c')) v l := by
    rintro v l (h | ⟨b, hb1, hb2, hb3⟩)
    · exact .inl h
    · have hbl := lt_of_block hb3
      have hbg : b ≠ g := by omega
      refine .inr ⟨b, ⟨by omega, by omega, ?_⟩, hb2, (other b (by omega)).trans ((ho.block b hbl (by simpa using hbg)).trans hb3)⟩
      rcases hg' with rfl | h
      · exact hbg
      · omega
  refine ⟨a', _, c', w', hrun, by rw [cell_of_row _ _ _ _ _ _ r1]; rfl, frozen_of_row _ _ 1 _ _ r1, gT, g', ?_, ?_, ?_, ?_, .inr ⟨hgD, by simpa using hgl, hgT'⟩, ?_, (other D (by omega)).trans r0, ?_⟩
  · exact heap_setCell_same w' (D + 1) 1 _ 35 (.slice a' (C.length + 1) c') r1
  · exact h2.kept ((other gT (by omega)).trans (hkeep gT h3.2 (Ne.symm hgT)))
  · exact ⟨h3.1, by have := ho.size; simp; omega⟩
  · rw [hl]; exact hr'.kept (other g' (by omega))
  · intro p hp
    rcases List.mem_append.1 hp with hp | hp
    · have hk2 : ∀ b, D + 1 < b → b ≠ gT → b ≠ g → b < u.heap.size → (w'.setCell ⟨D + 1, 1, none⟩ (.slice a' (C.length + 1) c')).heap[b]? = u.heap[b]? ∧ b ≠ g' := fun b b1 b2 b3 b4 => ⟨(other b (by omega)).trans (hkeep b b4 b3), by rcases hg' with rfl | h <;> omega⟩
      exact ⟨(hnm p hp).1.kept hk2, (hnm p hp).2.kept hk2⟩
    · obtain rfl := List.mem_singleton.1 hp
      exact ⟨newRow _ _ hm, newRow _ _ hy⟩
  · exact ((h8.trans (hu.mono (by omega))).trans (ho.toBelow (by simp; omega) (by omega))).setCell (p := ⟨D + 1, 1, none⟩) (by simp) _
theorem rw_tys {u : World} {g : Nat} {v : Value} {L : List Mt.Ty} (h : IsRw 71 4 u g v L.length (tyCells L)) : IsTys u v L := by
  rcases h.2 with ⟨h0, rfl⟩ | ⟨off, cap, cur, rfl, h2, h3, h4, h5⟩
  · have : L = [] := List.eq_nil_of_length_eq_zero h0
    subst this
    exact ⟨none, 0, rfl, by simp, Lib.hid fun j hj => absurd hj (by simp)⟩
  · refine ⟨_, cap, rfl, h3, Lib.hid fun j hj => ⟨g, off, rfl, lt_of_block h2, ?_⟩⟩
    obtain ⟨e0, e1, e2, e3⟩ := tyCells_get L j hj
    have hlen := tyCells_len L
    have q : ∀ i x, (tyCells L)[i]? = some x → u.cell? ⟨g, off + i, none⟩ = some x := fun i x hx => by
      have hi : i < (tyCells L).length := by
        rcases Nat.lt_or_ge i (tyCells L).length with h | h
        · exact h
        · rw [List.getElem?_eq_none h] at hx; cases hx
      rw [cell_of_row u g _ cur 71 (0, 0) h2, h5 i hi, ← List.getElem?_eq_getElem hi, hx]
    exact ⟨q _ _ e0, q _ _ e1, q _ _ e2, q _ _ e3⟩
theorem rw_cls {u : World} {g : Nat} {v : Value} {C : List (Mt.Cl × Value × Value)} (h : IsRw 73 5 u g v C.length (clCells C)) (hn : ∀ p ∈ C, IsNms u p.2.1 p.1.must ∧ IsNms u p.2.2 p.1.may) : IsCls u v (C.map (·.1)) := by
  rcases h.2 with ⟨h0, rfl⟩ | ⟨off, cap, cur, rfl, h2, h3, h4, h5⟩
  · have : C = [] := List.eq_nil_of_length_eq_zero h0
    subst this
    exact ⟨none, 0, rfl, by simp, Lib.hid fun j hj => absurd hj (by simp)⟩
  · refine ⟨_, cap, by rw [List.length_map], by rw [List.length_map]; exact h3, Lib.hid fun j hj => ?_⟩
    rw [List.length_map] at hj
    obtain ⟨e0, e1, e2, e3, e4⟩ := clCells_get C j hj
    obtain ⟨n1, n2⟩ := hn _ (List.getElem_mem hj)
    have q : ∀ i x, (clCells C)[i]? = some x → u.cell? ⟨g, off + i, none⟩ = some x := fun i x hx => by
      have hi : i < (clCells C).length := by
        rcases Nat.lt_or_ge i (clCells C).length with h | h
        · exact h
        · rw [List.getElem?_eq_none h] at hx; cases hx
      rw [cell_of_row u g _ cur 73 (0, 0) h2, h5 i hi, ← List.getElem?_eq_getElem hi, hx]
    simp only [List.getElem_map]
    exact ⟨g, off, C[j].2.1, C[j].2.2, rfl, lt_of_block h2, q _ _ e0, q _ _ e1, q _ _ e2, q _ _ e3, q _ _ e4, n1, n2⟩
/-- What is laid, read as a schema, also once the result is stored. -/
theorem P2.sc {D : Nat} {w u u' : World} {tv cv : Value} {T : List Mt.Ty} {C : List (Mt.Cl × Value × Value)} (h : P2 D w u tv T cv C) (hk : ∀ b, b ≠ D → u'.heap[b]? = u.heap[b]?) : IsTys u' tv T ∧ IsCls u' cv (C.map (·.1)) := by
  obtain ⟨gT, gC, h1, h2, h3, h4, h5, h6, h7, h8⟩ := h
  have hc : ∀ p ∈ C, RowN D gT gC u' p.2.1 p.1.must ∧ RowN D gT gC u' p.2.2 p.1.may := fun p hp => ⟨(h6 p hp).1.kept (fun b b1 b2 b3 _ => ⟨hk b (by omega), b3⟩), (h6 p hp).2.kept (fun b b1 b2 b3 _ => ⟨hk b (by omega), b3⟩)⟩
  refine ⟨rw_tys (h2.kept (hk gT (by omega))), ?_⟩
  rcases h5 with ⟨rfl, rfl⟩ | h5
  · exact ⟨none, 0, rfl, by simp, Lib.hid fun j hj => absurd hj (by simp)⟩
  · exact rw_cls (h4.kept (hk gC (by omega))) (fun p hp => ⟨(hc p hp).1.nms, (hc p hp).2.nms⟩)
theorem P2.far {D : Nat} {w u u' : World} {tv cv : Value} {T : List Mt.Ty} {C : List (Mt.Cl × Value × Value)} (h : P2 D w u tv T cv C) (hk : ∀ b, D < b → b < u.heap.size → u'.heap[b]? = u.heap[b]?) : IsTys u' tv T ∧ IsCls u' cv (C.map (·.1)) := by
  obtain ⟨gT, gC, h1, h2, h3, h4, h5, h6, h7, h8⟩ := h
  have hc : ∀ p ∈ C, RowN D gT gC u' p.2.1 p.1.must ∧ RowN D gT gC u' p.2.2 p.1.may := fun p hp => ⟨(h6 p hp).1.kept (fun b b1 b2 b3 b4 => ⟨hk b (by omega) b4, b3⟩), (h6 p hp).2.kept (fun b b1 b2 b3 b4 => ⟨hk b (by omega) b4, b3⟩)⟩
  refine ⟨rw_tys (h2.kept (hk gT (by omega) (by omega))), ?_⟩
  rcases h5 with ⟨rfl, rfl⟩ | h5
  · exact ⟨none, 0, rfl, by simp, Lib.hid fun j hj => absurd hj (by simp)⟩
  · exact rw_cls (h4.kept (hk gC (by omega) (by omega))) (fun p hp => ⟨(hc p hp).1.nms, (hc p hp).2.nms⟩)
end Go.Proofs.YtngdbhncafnliaaGreat

/-
  The chapter's schema, as the document builds it.
-/
namespace Go.Proofs.YtngdbhncafnliaaGreat
open Go.RowKit

set_option maxRecDepth 100000 in
set_option maxHeartbeats 4000000 in
/-- .. in blocks of the call's own. -/
theorem rcore13_far (w : World) : Calls Tryz.prog 11 #[] w fun e w' => ∃ tv cv, e = .returned (.agg #[tv, cv]) ∧ (∀ u, (∀ b, w.heap.size < b → b < w'.heap.size → u.heap[b]? = w'.heap[b]?) → IsSc u tv cv Mt.core) ∧ Below w.heap.size w w' := by
  obtain ⟨w1, hw1⟩ : ∃ u, w.alloc (.cells #[.slice none 0 0, .slice none 0 0] 35) = u := ⟨_, rfl⟩
  have hb1 : Below w.heap.size w w1 := by rw [← hw1]; exact (Below.refl _ w).alloc (Nat.le_refl _) _
  have hx1 : w1.heap[w.heap.size]? = some (.cells #[.slice none 0 0, .slice none 0 0] 35) := by rw [← hw1]; exact heap_alloc_new w _
  have hs1 : w1.heap.size = w.heap.size + 1 := by rw [← hw1]; simp
  obtain ⟨u0, hu0⟩ : ∃ u, w1.alloc (.cells #[.slice none 0 0, .slice none 0 0] 35) = u := ⟨_, rfl⟩
  have hb2 : Below w1.heap.size w1 u0 := by rw [← hu0]; exact (Below.refl _ w1).alloc (Nat.le_refl _) _
  have hx2 : u0.heap[w1.heap.size]? = some (.cells #[.slice none 0 0, .slice none 0 0] 35) := by rw [← hu0]; exact heap_alloc_new w1 _
  rw [hs1] at hx2
  have HP : Hid (P1 w.heap.size w u0 (.slice none 0 0) []) := Lib.hid ⟨0, hx2, IsRw.nil _ _ _ _, .inl ⟨rfl, rfl⟩, (hb2.block _ (by omega)).trans hx1, hb1.trans (hb2.mono (by omega))⟩
  clear hb1 hx1 hb2 hx2
  go_enter Tryz.func11, Tryz.ntmps11
  go_upto_region 2 with fail
  obtain ⟨d0, d1, hs, -⟩ := HP.out.cells
  have HT := Lib.hid (HP.out.types [[111, 98, 106, 101, 99, 116, 67, 108, 97, 115, 115]] 3 #[.string ⟨#[111, 98, 106, 101, 99, 116, 67, 108, 97, 115, 115]⟩] rfl 1 rfl (by decide) (by decide))
  clear HP
  go_wp2_with fail
  refine (HT.out).mono ?_
  rintro e w' ⟨a1, n1, c1, rfl, hc, hf, hp⟩
  have HP := Lib.hid hp
  clear hp d0 d1 HT
  go_upto_region 3 with fail
  obtain ⟨u1, hu1⟩ : ∃ x, w'.setCell ⟨w.heap.size + 1, 0, none⟩ (.slice a1 n1 c1) = x := ⟨_, rfl⟩
  rw [hu1] at HP
  simp only [hu1]
  clear hc hf hu1
  obtain ⟨d0, d1, hs, -⟩ := HP.out.cells
  have HT := Lib.hid (HP.out.types [[99, 110], [115, 110], [111, 117], [111]] 1 #[.string ⟨#[99, 110]⟩, .string ⟨#[115, 110]⟩, .string ⟨#[111, 117]⟩, .string ⟨#[111]⟩] rfl 4 rfl (by decide) (by decide))
  clear HP
  go_wp2_with fail
  refine (HT.out).mono ?_
  rintro e w' ⟨a2, n2, c2, rfl, hc, hf, hp⟩
  have HP := Lib.hid hp
  clear hp d0 d1 HT
  go_upto_region 4 with fail
  obtain ⟨u2, hu2⟩ : ∃ x, w'.setCell ⟨w.heap.size + 1, 0, none⟩ (.slice a2 n2 c2) = x := ⟨_, rfl⟩
  rw [hu2] at HP
  simp only [hu2]
  clear hc hf hu2
  obtain ⟨d0, d1, hs, -⟩ := HP.out.cells
  have HT := Lib.hid (HP.out.types [[100, 99], [117, 105, 100], [109, 97, 105, 108]] 3 #[.string ⟨#[100, 99]⟩, .string ⟨#[117, 105, 100]⟩, .string ⟨#[109, 97, 105, 108]⟩] rfl 3 rfl (by decide) (by decide))
  clear HP
  go_wp2_with fail
  refine (HT.out).mono ?_
  rintro e w' ⟨a3, n3, c3, rfl, hc, hf, hp⟩
  have HP := Lib.hid hp
  clear hp d0 d1 HT
  go_upto_region 5 with fail
  obtain ⟨u3, hu3⟩ : ∃ x, w'.setCell ⟨w.heap.size + 1, 0, none⟩ (.slice a3 n3 c3) = x := ⟨_, rfl⟩
  rw [hu3] at HP
  simp only [hu3]
  clear hc hf hu3
  obtain ⟨d0, d1, hs, -⟩ := HP.out.cells
  have HT := Lib.hid (HP.out.types [[100, 101, 115, 99, 114, 105, 112, 116, 105, 111, 110]] 1 #[.string ⟨#[100, 101, 115, 99, 114, 105, 112, 116, 105, 111, 110]⟩] rfl 1 rfl (by decide) (by decide))
  clear HP
  go_wp2_with fail
  refine (HT.out).mono ?_
  rintro e w' ⟨a4, n4, c4, rfl, hc, hf, hp⟩
  have HP := Lib.hid hp
  clear hp d0 d1 HT
  go_upto_region 6 with fail
  obtain ⟨u4, hu4⟩ : ∃ x, w'.setCell ⟨w.heap.size + 1, 0, none⟩ (.slice a4 n4 c4) = x := ⟨_, rfl⟩
  rw [hu4] at HP
  simp only [hu4]
  clear hc hf hu4
  obtain ⟨d0, d1, hs, -⟩ := HP.out.cells
  have HT := Lib.hid (HP.out.types [[109, 101, 109, 98, 101, 114]] 6 #[.string ⟨#[109, 101, 109, 98, 101, 114]⟩] rfl 1 rfl (by decide) (by decide))
  clear HP
  go_wp2_with fail
  refine (HT.out).mono ?_
  rintro e w' ⟨a5, n5, c5, rfl, hc, hf, hp⟩
  have HP := Lib.hid hp
  clear hp d0 d1 HT
  go_upto_region 7 with fail
  obtain ⟨u5, hu5⟩ : ∃ x, w'.setCell ⟨w.heap.size + 1, 0, none⟩ (.slice a5 n5 c5) = x := ⟨_, rfl⟩
  rw [hu5] at HP
  simp only [hu5]
  clear hc hf hu5
  obtain ⟨d0, d1, hs, -⟩ := HP.out.cells
  have HT := Lib.hid (HP.out.types [[117, 115, 101, 114, 80, 97, 115, 115, 119, 111, 114, 100]] 7 #[.string ⟨#[117, 115, 101, 114, 80, 97, 115, 115, 119, 111, 114, 100]⟩] rfl 1 rfl (by decide) (by decide))
  clear HP
  go_wp2_with fail
  refine (HT.out).mono ?_
  rintro e w' ⟨a6, n6, c6, rfl, hc, hf, hp⟩
  have HP := Lib.hid hp
  clear hp d0 d1 HT
  go_upto_region 8 with fail
  obtain ⟨u6, hu6⟩ : ∃ x, w'.setCell ⟨w.heap.size + 1, 0, none⟩ (.slice a6 n6 c6) = x := ⟨_, rfl⟩
  rw [hu6] at HP
  simp only [hu6]
  clear hc hf hu6
  obtain ⟨d0, d1, hs, -⟩ := HP.out.cells
  obtain ⟨a7, n7, c7, w', hrun, hc, hf, hp, -⟩ := HP.out.push ⟨[101, 109, 112, 108, 111, 121, 101, 101, 78, 117, 109, 98, 101, 114], 4, true, false⟩ ⟨#[101, 109, 112, 108, 111, 121, 101, 101, 78, 117, 109, 98, 101, 114]⟩ rfl 4 rfl true false rfl rfl (by decide)
  clear HP
  have HP := Lib.hid hp
  clear hp
  go_upto_region 9 with (with_reducible refine oper_append13 (.tmp 36) (.tmp 38) 32 32 ?_ _ _ ?_ ?_ _ ?_ hrun ?_; rfl; simp [go_sem]; simp [go_sem]; with_reducible rfl)
  obtain ⟨u7, hu7⟩ : ∃ x, w'.setCell ⟨w.heap.size + 1, 0, none⟩ (.slice a7 n7 c7) = x := ⟨_, rfl⟩
  rw [hu7] at HP
  simp only [hu7]
  clear d0 d1 hc hf hrun hu7
  obtain ⟨d0, d1, hs, -⟩ := HP.out.cells
  obtain ⟨a8, n8, c8, w', hrun, hc, hf, hp, -⟩ := HP.out.push ⟨[97, 99, 116, 105, 118, 101], 5, true, false⟩ ⟨#[97, 99, 116, 105, 118, 101]⟩ rfl 5 rfl true false rfl rfl (by decide)
  clear HP
  have HP := Lib.hid hp
  clear hp
  go_upto_region 10 with (with_reducible refine oper_append13 (.tmp 42) (.tmp 44) 32 32 ?_ _ _ ?_ ?_ _ ?_ hrun ?_; rfl; simp [go_sem]; simp [go_sem]; with_reducible rfl)
  obtain ⟨u8, hu8⟩ : ∃ x, w'.setCell ⟨w.heap.size + 1, 0, none⟩ (.slice a8 n8 c8) = x := ⟨_, rfl⟩
  rw [hu8] at HP
  simp only [hu8]
  clear d0 d1 hc hf hrun hu8
  have hL13 : ([] ++ Mt.tysOf 3 [[111, 98, 106, 101, 99, 116, 67, 108, 97, 115, 115]] ++ Mt.tysOf 1 [[99, 110], [115, 110], [111, 117], [111]] ++ Mt.tysOf 3 [[100, 99], [117, 105, 100], [109, 97, 105, 108]] ++ Mt.tysOf 1 [[100, 101, 115, 99, 114, 105, 112, 116, 105, 111, 110]] ++ Mt.tysOf 6 [[109, 101, 109, 98, 101, 114]] ++ Mt.tysOf 7 [[117, 115, 101, 114, 80, 97, 115, 115, 119, 111, 114, 100]] ++ [⟨[101, 109, 112, 108, 111, 121, 101, 101, 78, 117, 109, 98, 101, 114], 4, true, false⟩] ++ [⟨[97, 99, 116, 105, 118, 101], 5, true, false⟩] : List Mt.Ty) = Mt.coreT.take 13 := rfl
  rw [hL13] at HP
  obtain ⟨FN, hFN⟩ : ∃ l : List (List UInt8), l = [[99, 114, 101, 97, 116, 101, 100, 65, 116], [99, 104, 97, 110, 103, 101, 100, 65, 116], [112, 119, 100, 70, 97, 105, 108, 117, 114, 101], [112, 119, 100, 76, 111, 99, 107, 101, 100], [112, 119, 100, 67, 104, 97, 110, 103, 101, 100]] := ⟨_, rfl⟩
  obtain ⟨PF, hPF⟩ : ∃ l : List UInt8, l = [112, 119, 100, 70, 97, 105, 108, 117, 114, 101] := ⟨_, rfl⟩
  have HFL : Hid (FN.length = 5) := Lib.hid (by rw [hFN]; rfl)
  have HFC : Hid (Mt.coreT.take 13 ++ FN.map (fun p => if p = PF then (⟨p, 3, false, true⟩ : Mt.Ty) else ⟨p, 4, true, true⟩) = Mt.coreT) := Lib.hid (by rw [hFN, hPF]; decide +kernel)
  obtain ⟨d0, d1, hs, -⟩ := HP.out.cells
  obtain ⟨v9, hv9⟩ : ∃ x, u8.alloc (.cells #[.string ⟨#[99, 114, 101, 97, 116, 101, 100, 65, 116]⟩, .string ⟨#[99, 104, 97, 110, 103, 101, 100, 65, 116]⟩, .string ⟨#[112, 119, 100, 70, 97, 105, 108, 117, 114, 101]⟩, .string ⟨#[112, 119, 100, 76, 111, 99, 107, 101, 100]⟩, .string ⟨#[112, 119, 100, 67, 104, 97, 110, 103, 101, 100]⟩] 9) = x := ⟨_, rfl⟩
  have hb9 : Below u8.heap.size u8 v9 := by rw [← hv9]; exact (Below.refl _ u8).alloc (Nat.le_refl _) _
  have HN9 : Hid (v9.heap[u8.heap.size]? = some (Obj.cells (nms FN).toArray 9)) := Lib.hid (by rw [← hv9, hFN]; exact heap_alloc_new u8 _)
  have HP9 : Hid (∃ a n c, P1 w.heap.size w v9 (.slice a n c) (Mt.coreT.take 13 ++ (FN.take 0).map (fun p => if p = PF then (⟨p, 3, false, true⟩ : Mt.Ty) else ⟨p, 4, true, true⟩))) := Lib.hid ⟨_, _, _, by simpa using HP.out.next hb9⟩
  have HPE := Lib.hid (fun p => Mt.str_beq p PF)
  have HPE2 : Hid (∀ p, ((Mt.str p).toList == ([112, 119, 100, 70, 97, 105, 108, 117, 114, 101] : List UInt8)) = decide (p = PF)) := Lib.hid (fun p => by
    rw [ByteArray.toList_eq, Mt.str_data, hPF, Bool.eq_iff_iff, beq_iff_eq, decide_eq_true_eq])
  have hrs : Mt.str PF = ⟨#[112, 119, 100, 70, 97, 105, 108, 117, 114, 101]⟩ := by rw [hPF]; rfl
  rw [hrs] at HPE
  clear hL13 HP hb9 hrs d0 d1 hs hFN
  go_upto_region 11 with fail
  try simp only [hv9]
  go_loopw [49] (fun iv wr => ∃ i : Nat, i ≤ 5 ∧ iv = .int .i64 (i : Int) ∧ Hid (∃ a n c, P1 w.heap.size w wr (.slice a n c) (Mt.coreT.take 13 ++ (FN.take i).map (fun p => if p = PF then (⟨p, 3, false, true⟩ : Mt.Ty) else ⟨p, 4, true, true⟩))) ∧ Hid (wr.heap[u8.heap.size]? = some (Obj.cells (nms FN).toArray 9))) (fun iv _ => 5 - (intOf iv).toNat)
  case atStart => exact ⟨0, Nat.zero_le _, rfl, HP9, HN9⟩
  case round =>
    obtain ⟨i, hi, rfl, HPI, HNI⟩ := hrel
    obtain ⟨a, n, c, hp⟩ := HPI.out
    have HP := Lib.hid hp
    clear hp
    by_cases hlt : i < 5
    · have e1 : decide ((i : Int) < 5) = true := decide_eq_true (by omega)
      have e2 : decide (i < 5) = true := decide_eq_true hlt
      have hit : i < FN.length := by rw [HFL.out]; exact hlt
      have x0 : wr.cell? ⟨u8.heap.size, i, none⟩ = some (.string (Mt.str FN[i])) := by
        rw [cell_of_row _ _ _ _ _ _ HNI.out, List.getElem?_toArray]
        simp [nms, hit]
      have i4 : (0 : Int) ≤ (i : Int) := by omega
      have i5 : (i : Int) < 5 := by omega
      have htk := List.take_succ_eq_append_getElem hit
      have hlen : (Mt.coreT.take 13 ++ (FN.take i).map (fun p => if p = PF then (⟨p, 3, false, true⟩ : Mt.Ty) else ⟨p, 4, true, true⟩)).length ≤ 1000 := by
        rw [List.length_append, List.length_map, List.length_take, List.length_take]; omega
      have e5 := HPE.out FN[i]
      have e6 := HPE2.out FN[i]
      generalize FN[i] = p at *
      obtain ⟨N, hN⟩ : ∃ N, Mt.str p = N := ⟨_, rfl⟩
      rw [hN] at e5 e6 x0
      by_cases hpf : p = PF
      · rw [decide_eq_true hpf] at e5 e6
        have hfp : (if p = PF then (⟨p, 3, false, true⟩ : Mt.Ty) else ⟨p, 4, true, true⟩) = ⟨p, 3, false, true⟩ := if_pos hpf
        go_upto_region 17 with fail
        obtain ⟨ua, hua⟩ : ∃ x, wr.alloc (.cells #[.string N, .int .i64 3, .bool false, .bool true] 71) = x := ⟨_, rfl⟩
        have hba : Below wr.heap.size wr ua := by rw [← hua]; exact (Below.refl _ wr).alloc (Nat.le_refl _) _
        have hxa : ua.heap[wr.heap.size]? = some (.cells #[.string N, .int .i64 3, .bool false, .bool true] 71) := by rw [← hua]; exact heap_alloc_new wr _
        have z0 : ua.cell? ⟨wr.heap.size, 0, none⟩ = some (.string N) := by rw [cell_of_row _ _ _ _ _ _ hxa]; rfl
        have z1 : ua.cell? ⟨wr.heap.size, 1, none⟩ = some (.int .i64 3) := by rw [cell_of_row _ _ _ _ _ _ hxa]; rfl
        have z2 : ua.cell? ⟨wr.heap.size, 2, none⟩ = some (.bool false) := by rw [cell_of_row _ _ _ _ _ _ hxa]; rfl
        have z3 : ua.cell? ⟨wr.heap.size, 3, none⟩ = some (.bool true) := by rw [cell_of_row _ _ _ _ _ _ hxa]; rfl
        have hpa := HP.out.next hba
        obtain ⟨d0, d1, hs, -⟩ := hpa.cells
        have hna := (hba.block _ (lt_of_block HNI.out)).trans HNI.out
        obtain ⟨a7, n7, c7, w', hrun, hc, hf, hp, hkeep⟩ := hpa.push ⟨p, 3, false, true⟩ N hN.symm 3 rfl false true rfl rfl hlen
        have HP2 : Hid (∃ a n c, P1 w.heap.size w (w'.setCell ⟨w.heap.size + 1, 0, none⟩ (.slice a7 n7 c7)) (.slice a n c) (Mt.coreT.take 13 ++ (FN.take (i + 1)).map (fun p => if p = PF then (⟨p, 3, false, true⟩ : Mt.Ty) else ⟨p, 4, true, true⟩))) := Lib.hid ⟨a7, n7, c7, by
          rw [htk, List.map_append, List.map_singleton, hfp, ← List.append_assoc]; exact hp⟩
        have HN2 := Lib.hid (hkeep _ _ hna)
        clear hba hxa hpa hna hp hkeep hfp htk hlen HP hpf
        simp only [hua]
        clear hua
        go_upto_region 18 with (with_reducible refine oper_append13 (.tmp 60) (.tmp 62) 32 32 ?_ _ _ ?_ ?_ _ ?_ hrun ?_; rfl; simp [go_sem]; simp [go_sem]; with_reducible rfl)
        clear z0 z1 z2 z3 d0 d1 hs hrun x0
        go_wp2_with fail
        go_roundw
        case rel => exact ⟨i + 1, by omega, by go_num, HP2, HN2⟩
        case measure => simp [intOf]; omega
      
      · rw [decide_eq_false hpf] at e5 e6
        have hfp : (if p = PF then (⟨p, 3, false, true⟩ : Mt.Ty) else ⟨p, 4, true, true⟩) = ⟨p, 4, true, true⟩ := if_neg hpf
        go_upto_region 17 with fail
        obtain ⟨ua, hua⟩ : ∃ x, wr.alloc (.cells #[.string N, .int .i64 4, .bool true, .bool true] 71) = x := ⟨_, rfl⟩
        have hba : Below wr.heap.size wr ua := by rw [← hua]; exact (Below.refl _ wr).alloc (Nat.le_refl _) _
        have hxa : ua.heap[wr.heap.size]? = some (.cells #[.string N, .int .i64 4, .bool true, .bool true] 71) := by rw [← hua]; exact heap_alloc_new wr _
        have z0 : ua.cell? ⟨wr.heap.size, 0, none⟩ = some (.string N) := by rw [cell_of_row _ _ _ _ _ _ hxa]; rfl
        have z1 : ua.cell? ⟨wr.heap.size, 1, none⟩ = some (.int .i64 4) := by rw [cell_of_row _ _ _ _ _ _ hxa]; rfl
        have z2 : ua.cell? ⟨wr.heap.size, 2, none⟩ = some (.bool true) := by rw [cell_of_row _ _ _ _ _ _ hxa]; rfl
        have z3 : ua.cell? ⟨wr.heap.size, 3, none⟩ = some (.bool true) := by rw [cell_of_row _ _ _ _ _ _ hxa]; rfl
        have hpa := HP.out.next hba
        obtain ⟨d0, d1, hs, -⟩ := hpa.cells
        have hna := (hba.block _ (lt_of_block HNI.out)).trans HNI.out
        obtain ⟨a7, n7, c7, w', hrun, hc, hf, hp, hkeep⟩ := hpa.push ⟨p, 4, true, true⟩ N hN.symm 4 rfl true true rfl rfl hlen
        have HP2 : Hid (∃ a n c, P1 w.heap.size w (w'.setCell ⟨w.heap.size + 1, 0, none⟩ (.slice a7 n7 c7)) (.slice a n c) (Mt.coreT.take 13 ++ (FN.take (i + 1)).map (fun p => if p = PF then (⟨p, 3, false, true⟩ : Mt.Ty) else ⟨p, 4, true, true⟩))) := Lib.hid ⟨a7, n7, c7, by
          rw [htk, List.map_append, List.map_singleton, hfp, ← List.append_assoc]; exact hp⟩
        have HN2 := Lib.hid (hkeep _ _ hna)
        clear hba hxa hpa hna hp hkeep hfp htk hlen HP hpf
        simp only [hua]
        clear hua
        go_upto_region 18 with (with_reducible refine oper_append13 (.tmp 60) (.tmp 62) 32 32 ?_ _ _ ?_ ?_ _ ?_ hrun ?_; rfl; simp [go_sem]; simp [go_sem]; with_reducible rfl)
        clear z0 z1 z2 z3 d0 d1 hs hrun x0
        go_wp2_with fail
        go_roundw
        case rel => exact ⟨i + 1, by omega, by go_num, HP2, HN2⟩
        case measure => simp [intOf]; omega
    · obtain rfl : i = 5 := by omega
      have hp2 : P1 w.heap.size w wr (.slice a n c) Mt.coreT := by
        have := HP.out
        rwa [List.take_of_length_le (l := FN) (by rw [HFL.out]; exact Nat.le_refl _), HFC.out] at this
      have HQ := Lib.hid (hp2.done (by decide))
      clear hp2 HPI HP HNI
      go_upto_region 19 with fail
      obtain ⟨t0, ht0⟩ : ∃ x, x = wr := ⟨_, rfl⟩
      rw [← ht0] at HQ
      simp only [← ht0]
      clear ht0

      obtain ⟨d0, d1, hs, -⟩ := HQ.out.cells
      obtain ⟨r1, hr1⟩ : ∃ x, t0.alloc (.cells #[.string ⟨#[111, 98, 106, 101, 99, 116, 67, 108, 97, 115, 115]⟩] 9) = x := ⟨_, rfl⟩
      have br1 : Below t0.heap.size t0 r1 := by rw [← hr1]; exact (Below.refl _ t0).alloc (Nat.le_refl _) _
      have sr1 : r1.heap.size = t0.heap.size + 1 := by rw [← hr1]; simp
      have xr1 : r1.heap[t0.heap.size]? = some (.cells #[.string ⟨#[111, 98, 106, 101, 99, 116, 67, 108, 97, 115, 115]⟩] 9) := by
        have h := heap_alloc_new t0 (.cells #[.string ⟨#[111, 98, 106, 101, 99, 116, 67, 108, 97, 115, 115]⟩] 9)
        rw [hr1] at h; exact h
      obtain ⟨r2, hr2⟩ : ∃ x, r1.alloc (.cells #[.string ⟨#[99, 114, 101, 97, 116, 101, 100, 65, 116]⟩, .string ⟨#[99, 104, 97, 110, 103, 101, 100, 65, 116]⟩, .string ⟨#[112, 119, 100, 70, 97, 105, 108, 117, 114, 101]⟩, .string ⟨#[112, 119, 100, 76, 111, 99, 107, 101, 100]⟩, .string ⟨#[112, 119, 100, 67, 104, 97, 110, 103, 101, 100]⟩] 9) = x := ⟨_, rfl⟩
      have br2 : Below r1.heap.size r1 r2 := by rw [← hr2]; exact (Below.refl _ r1).alloc (Nat.le_refl _) _
      have sr2 : r2.heap.size = t0.heap.size + 2 := by rw [← hr2]; simp [sr1]
      have xr2 : r2.heap[t0.heap.size + 1]? = some (.cells #[.string ⟨#[99, 114, 101, 97, 116, 101, 100, 65, 116]⟩, .string ⟨#[99, 104, 97, 110, 103, 101, 100, 65, 116]⟩, .string ⟨#[112, 119, 100, 70, 97, 105, 108, 117, 114, 101]⟩, .string ⟨#[112, 119, 100, 76, 111, 99, 107, 101, 100]⟩, .string ⟨#[112, 119, 100, 67, 104, 97, 110, 103, 101, 100]⟩] 9) := by
        have h := heap_alloc_new r1 (.cells #[.string ⟨#[99, 114, 101, 97, 116, 101, 100, 65, 116]⟩, .string ⟨#[99, 104, 97, 110, 103, 101, 100, 65, 116]⟩, .string ⟨#[112, 119, 100, 70, 97, 105, 108, 117, 114, 101]⟩, .string ⟨#[112, 119, 100, 76, 111, 99, 107, 101, 100]⟩, .string ⟨#[112, 119, 100, 67, 104, 97, 110, 103, 101, 100]⟩] 9)
        rw [hr2, sr1] at h; exact h
      have hbb : Below t0.heap.size t0 r2 := br1.trans (br2.mono (by omega))
      have hm : NewN t0.heap.size r2 (.slice (some ⟨t0.heap.size, 0, none⟩) 1 1) [[111, 98, 106, 101, 99, 116, 67, 108, 97, 115, 115]] := .inr ⟨t0.heap.size, by omega, rfl, (br2.block _ (by omega)).trans xr1⟩
      have hy : NewN t0.heap.size r2 (.slice (some ⟨t0.heap.size + 1, 0, none⟩) 5 5) [[99, 114, 101, 97, 116, 101, 100, 65, 116], [99, 104, 97, 110, 103, 101, 100, 65, 116], [112, 119, 100, 70, 97, 105, 108, 117, 114, 101], [112, 119, 100, 76, 111, 99, 107, 101, 100], [112, 119, 100, 67, 104, 97, 110, 103, 101, 100]] := .inr ⟨t0.heap.size + 1, by omega, rfl, xr2⟩
      obtain ⟨a0', n0', c0', w', hrun, hc, hf, hp⟩ := HQ.out.push hbb ⟨[116, 111, 112], [], 0, [[111, 98, 106, 101, 99, 116, 67, 108, 97, 115, 115]], [[99, 114, 101, 97, 116, 101, 100, 65, 116], [99, 104, 97, 110, 103, 101, 100, 65, 116], [112, 119, 100, 70, 97, 105, 108, 117, 114, 101], [112, 119, 100, 76, 111, 99, 107, 101, 100], [112, 119, 100, 67, 104, 97, 110, 103, 101, 100]]⟩ (.slice (some ⟨t0.heap.size, 0, none⟩) 1 1) (.slice (some ⟨t0.heap.size + 1, 0, none⟩) 5 5) hm hy ⟨#[116, 111, 112]⟩ ⟨#[]⟩ rfl rfl 0 rfl (by simp)
      clear HQ
      have HQ := Lib.hid hp
      rw [sr2, ← hr2, ← hr1] at hrun
      clear hp hm hy hbb br1 sr1 xr1 hr1 br2 sr2 xr2 hr2
      go_upto_region 20 with (with_reducible refine oper_append13 (.tmp 67) (.tmp 71) 33 33 ?_ _ _ ?_ ?_ _ ?_ hrun ?_; rfl; simp [go_sem]; simp [go_sem]; with_reducible rfl)
      obtain ⟨t1, ht⟩ : ∃ x, w'.setCell ⟨w.heap.size + 1, 1, none⟩ (.slice a0' n0' c0') = x := ⟨_, rfl⟩
      rw [ht] at HQ
      simp only [ht]
      clear d0 d1 hc hf hrun ht hs
      obtain ⟨d0, d1, hs, -⟩ := HQ.out.cells
      obtain ⟨r1, hr1⟩ : ∃ x, t1.alloc (.cells #[.string ⟨#[100, 99]⟩] 9) = x := ⟨_, rfl⟩
      have br1 : Below t1.heap.size t1 r1 := by rw [← hr1]; exact (Below.refl _ t1).alloc (Nat.le_refl _) _
      have sr1 : r1.heap.size = t1.heap.size + 1 := by rw [← hr1]; simp
      have xr1 : r1.heap[t1.heap.size]? = some (.cells #[.string ⟨#[100, 99]⟩] 9) := by
        have h := heap_alloc_new t1 (.cells #[.string ⟨#[100, 99]⟩] 9)
        rw [hr1] at h; exact h
      obtain ⟨r2, hr2⟩ : ∃ x, r1.alloc (.cells #[.string ⟨#[100, 101, 115, 99, 114, 105, 112, 116, 105, 111, 110]⟩] 9) = x := ⟨_, rfl⟩
      have br2 : Below r1.heap.size r1 r2 := by rw [← hr2]; exact (Below.refl _ r1).alloc (Nat.le_refl _) _
      have sr2 : r2.heap.size = t1.heap.size + 2 := by rw [← hr2]; simp [sr1]
      have xr2 : r2.heap[t1.heap.size + 1]? = some (.cells #[.string ⟨#[100, 101, 115, 99, 114, 105, 112, 116, 105, 111, 110]⟩] 9) := by
        have h := heap_alloc_new r1 (.cells #[.string ⟨#[100, 101, 115, 99, 114, 105, 112, 116, 105, 111, 110]⟩] 9)
        rw [hr2, sr1] at h; exact h
      have hbb : Below t1.heap.size t1 r2 := br1.trans (br2.mono (by omega))
      have hm : NewN t1.heap.size r2 (.slice (some ⟨t1.heap.size, 0, none⟩) 1 1) [[100, 99]] := .inr ⟨t1.heap.size, by omega, rfl, (br2.block _ (by omega)).trans xr1⟩
      have hy : NewN t1.heap.size r2 (.slice (some ⟨t1.heap.size + 1, 0, none⟩) 1 1) [[100, 101, 115, 99, 114, 105, 112, 116, 105, 111, 110]] := .inr ⟨t1.heap.size + 1, by omega, rfl, xr2⟩
      obtain ⟨a1', n1', c1', w', hrun, hc, hf, hp⟩ := HQ.out.push hbb ⟨[100, 111, 109, 97, 105, 110], [116, 111, 112], 1, [[100, 99]], [[100, 101, 115, 99, 114, 105, 112, 116, 105, 111, 110]]⟩ (.slice (some ⟨t1.heap.size, 0, none⟩) 1 1) (.slice (some ⟨t1.heap.size + 1, 0, none⟩) 1 1) hm hy ⟨#[100, 111, 109, 97, 105, 110]⟩ ⟨#[116, 111, 112]⟩ rfl rfl 1 rfl (by simp)
      clear HQ
      have HQ := Lib.hid hp
      rw [sr2, ← hr2, ← hr1] at hrun
      clear hp hm hy hbb br1 sr1 xr1 hr1 br2 sr2 xr2 hr2
      go_upto_region 21 with (with_reducible refine oper_append13 (.tmp 75) (.tmp 79) 33 33 ?_ _ _ ?_ ?_ _ ?_ hrun ?_; rfl; simp [go_sem]; simp [go_sem]; with_reducible rfl)
      obtain ⟨t2, ht⟩ : ∃ x, w'.setCell ⟨w.heap.size + 1, 1, none⟩ (.slice a1' n1' c1') = x := ⟨_, rfl⟩
      rw [ht] at HQ
      simp only [ht]
      clear d0 d1 hc hf hrun ht hs
      obtain ⟨d0, d1, hs, -⟩ := HQ.out.cells
      obtain ⟨r1, hr1⟩ : ∃ x, t2.alloc (.cells #[.string ⟨#[111]⟩] 9) = x := ⟨_, rfl⟩
      have br1 : Below t2.heap.size t2 r1 := by rw [← hr1]; exact (Below.refl _ t2).alloc (Nat.le_refl _) _
      have sr1 : r1.heap.size = t2.heap.size + 1 := by rw [← hr1]; simp
      have xr1 : r1.heap[t2.heap.size]? = some (.cells #[.string ⟨#[111]⟩] 9) := by
        have h := heap_alloc_new t2 (.cells #[.string ⟨#[111]⟩] 9)
        rw [hr1] at h; exact h
      obtain ⟨r2, hr2⟩ : ∃ x, r1.alloc (.cells #[.string ⟨#[100, 101, 115, 99, 114, 105, 112, 116, 105, 111, 110]⟩] 9) = x := ⟨_, rfl⟩
      have br2 : Below r1.heap.size r1 r2 := by rw [← hr2]; exact (Below.refl _ r1).alloc (Nat.le_refl _) _
      have sr2 : r2.heap.size = t2.heap.size + 2 := by rw [← hr2]; simp [sr1]
      have xr2 : r2.heap[t2.heap.size + 1]? = some (.cells #[.string ⟨#[100, 101, 115, 99, 114, 105, 112, 116, 105, 111, 110]⟩] 9) := by
        have h := heap_alloc_new r1 (.cells #[.string ⟨#[100, 101, 115, 99, 114, 105, 112, 116, 105, 111, 110]⟩] 9)
        rw [hr2, sr1] at h; exact h
      have hbb : Below t2.heap.size t2 r2 := br1.trans (br2.mono (by omega))
      have hm : NewN t2.heap.size r2 (.slice (some ⟨t2.heap.size, 0, none⟩) 1 1) [[111]] := .inr ⟨t2.heap.size, by omega, rfl, (br2.block _ (by omega)).trans xr1⟩
      have hy : NewN t2.heap.size r2 (.slice (some ⟨t2.heap.size + 1, 0, none⟩) 1 1) [[100, 101, 115, 99, 114, 105, 112, 116, 105, 111, 110]] := .inr ⟨t2.heap.size + 1, by omega, rfl, xr2⟩
      obtain ⟨a2', n2', c2', w', hrun, hc, hf, hp⟩ := HQ.out.push hbb ⟨[111, 114, 103, 97, 110, 105, 122, 97, 116, 105, 111, 110], [116, 111, 112], 1, [[111]], [[100, 101, 115, 99, 114, 105, 112, 116, 105, 111, 110]]⟩ (.slice (some ⟨t2.heap.size, 0, none⟩) 1 1) (.slice (some ⟨t2.heap.size + 1, 0, none⟩) 1 1) hm hy ⟨#[111, 114, 103, 97, 110, 105, 122, 97, 116, 105, 111, 110]⟩ ⟨#[116, 111, 112]⟩ rfl rfl 1 rfl (by simp)
      clear HQ
      have HQ := Lib.hid hp
      rw [sr2, ← hr2, ← hr1] at hrun
      clear hp hm hy hbb br1 sr1 xr1 hr1 br2 sr2 xr2 hr2
      go_upto_region 22 with (with_reducible refine oper_append13 (.tmp 83) (.tmp 87) 33 33 ?_ _ _ ?_ ?_ _ ?_ hrun ?_; rfl; simp [go_sem]; simp [go_sem]; with_reducible rfl)
      obtain ⟨t3, ht⟩ : ∃ x, w'.setCell ⟨w.heap.size + 1, 1, none⟩ (.slice a2' n2' c2') = x := ⟨_, rfl⟩
      rw [ht] at HQ
      simp only [ht]
      clear d0 d1 hc hf hrun ht hs
      obtain ⟨d0, d1, hs, -⟩ := HQ.out.cells
      obtain ⟨r1, hr1⟩ : ∃ x, t3.alloc (.cells #[.string ⟨#[111, 117]⟩] 9) = x := ⟨_, rfl⟩
      have br1 : Below t3.heap.size t3 r1 := by rw [← hr1]; exact (Below.refl _ t3).alloc (Nat.le_refl _) _
      have sr1 : r1.heap.size = t3.heap.size + 1 := by rw [← hr1]; simp
      have xr1 : r1.heap[t3.heap.size]? = some (.cells #[.string ⟨#[111, 117]⟩] 9) := by
        have h := heap_alloc_new t3 (.cells #[.string ⟨#[111, 117]⟩] 9)
        rw [hr1] at h; exact h
      obtain ⟨r2, hr2⟩ : ∃ x, r1.alloc (.cells #[.string ⟨#[100, 101, 115, 99, 114, 105, 112, 116, 105, 111, 110]⟩] 9) = x := ⟨_, rfl⟩
      have br2 : Below r1.heap.size r1 r2 := by rw [← hr2]; exact (Below.refl _ r1).alloc (Nat.le_refl _) _
      have sr2 : r2.heap.size = t3.heap.size + 2 := by rw [← hr2]; simp [sr1]
      have xr2 : r2.heap[t3.heap.size + 1]? = some (.cells #[.string ⟨#[100, 101, 115, 99, 114, 105, 112, 116, 105, 111, 110]⟩] 9) := by
        have h := heap_alloc_new r1 (.cells #[.string ⟨#[100, 101, 115, 99, 114, 105, 112, 116, 105, 111, 110]⟩] 9)
        rw [hr2, sr1] at h; exact h
      have hbb : Below t3.heap.size t3 r2 := br1.trans (br2.mono (by omega))
      have hm : NewN t3.heap.size r2 (.slice (some ⟨t3.heap.size, 0, none⟩) 1 1) [[111, 117]] := .inr ⟨t3.heap.size, by omega, rfl, (br2.block _ (by omega)).trans xr1⟩
      have hy : NewN t3.heap.size r2 (.slice (some ⟨t3.heap.size + 1, 0, none⟩) 1 1) [[100, 101, 115, 99, 114, 105, 112, 116, 105, 111, 110]] := .inr ⟨t3.heap.size + 1, by omega, rfl, xr2⟩
      obtain ⟨a3', n3', c3', w', hrun, hc, hf, hp⟩ := HQ.out.push hbb ⟨[111, 114, 103, 97, 110, 105, 122, 97, 116, 105, 111, 110, 97, 108, 85, 110, 105, 116], [116, 111, 112], 1, [[111, 117]], [[100, 101, 115, 99, 114, 105, 112, 116, 105, 111, 110]]⟩ (.slice (some ⟨t3.heap.size, 0, none⟩) 1 1) (.slice (some ⟨t3.heap.size + 1, 0, none⟩) 1 1) hm hy ⟨#[111, 114, 103, 97, 110, 105, 122, 97, 116, 105, 111, 110, 97, 108, 85, 110, 105, 116]⟩ ⟨#[116, 111, 112]⟩ rfl rfl 1 rfl (by simp)
      clear HQ
      have HQ := Lib.hid hp
      rw [sr2, ← hr2, ← hr1] at hrun
      clear hp hm hy hbb br1 sr1 xr1 hr1 br2 sr2 xr2 hr2
      go_upto_region 23 with (with_reducible refine oper_append13 (.tmp 91) (.tmp 95) 33 33 ?_ _ _ ?_ ?_ _ ?_ hrun ?_; rfl; simp [go_sem]; simp [go_sem]; with_reducible rfl)
      obtain ⟨t4, ht⟩ : ∃ x, w'.setCell ⟨w.heap.size + 1, 1, none⟩ (.slice a3' n3' c3') = x := ⟨_, rfl⟩
      rw [ht] at HQ
      simp only [ht]
      clear d0 d1 hc hf hrun ht hs
      obtain ⟨d0, d1, hs, -⟩ := HQ.out.cells
      obtain ⟨r1, hr1⟩ : ∃ x, t4.alloc (.cells #[.string ⟨#[99, 110]⟩, .string ⟨#[115, 110]⟩] 9) = x := ⟨_, rfl⟩
      have br1 : Below t4.heap.size t4 r1 := by rw [← hr1]; exact (Below.refl _ t4).alloc (Nat.le_refl _) _
      have sr1 : r1.heap.size = t4.heap.size + 1 := by rw [← hr1]; simp
      have xr1 : r1.heap[t4.heap.size]? = some (.cells #[.string ⟨#[99, 110]⟩, .string ⟨#[115, 110]⟩] 9) := by
        have h := heap_alloc_new t4 (.cells #[.string ⟨#[99, 110]⟩, .string ⟨#[115, 110]⟩] 9)
        rw [hr1] at h; exact h
      obtain ⟨r2, hr2⟩ : ∃ x, r1.alloc (.cells #[.string ⟨#[100, 101, 115, 99, 114, 105, 112, 116, 105, 111, 110]⟩, .string ⟨#[117, 115, 101, 114, 80, 97, 115, 115, 119, 111, 114, 100]⟩] 9) = x := ⟨_, rfl⟩
      have br2 : Below r1.heap.size r1 r2 := by rw [← hr2]; exact (Below.refl _ r1).alloc (Nat.le_refl _) _
      have sr2 : r2.heap.size = t4.heap.size + 2 := by rw [← hr2]; simp [sr1]
      have xr2 : r2.heap[t4.heap.size + 1]? = some (.cells #[.string ⟨#[100, 101, 115, 99, 114, 105, 112, 116, 105, 111, 110]⟩, .string ⟨#[117, 115, 101, 114, 80, 97, 115, 115, 119, 111, 114, 100]⟩] 9) := by
        have h := heap_alloc_new r1 (.cells #[.string ⟨#[100, 101, 115, 99, 114, 105, 112, 116, 105, 111, 110]⟩, .string ⟨#[117, 115, 101, 114, 80, 97, 115, 115, 119, 111, 114, 100]⟩] 9)
        rw [hr2, sr1] at h; exact h
      have hbb : Below t4.heap.size t4 r2 := br1.trans (br2.mono (by omega))
      have hm : NewN t4.heap.size r2 (.slice (some ⟨t4.heap.size, 0, none⟩) 2 2) [[99, 110], [115, 110]] := .inr ⟨t4.heap.size, by omega, rfl, (br2.block _ (by omega)).trans xr1⟩
      have hy : NewN t4.heap.size r2 (.slice (some ⟨t4.heap.size + 1, 0, none⟩) 2 2) [[100, 101, 115, 99, 114, 105, 112, 116, 105, 111, 110], [117, 115, 101, 114, 80, 97, 115, 115, 119, 111, 114, 100]] := .inr ⟨t4.heap.size + 1, by omega, rfl, xr2⟩
      obtain ⟨a4', n4', c4', w', hrun, hc, hf, hp⟩ := HQ.out.push hbb ⟨[112, 101, 114, 115, 111, 110], [116, 111, 112], 1, [[99, 110], [115, 110]], [[100, 101, 115, 99, 114, 105, 112, 116, 105, 111, 110], [117, 115, 101, 114, 80, 97, 115, 115, 119, 111, 114, 100]]⟩ (.slice (some ⟨t4.heap.size, 0, none⟩) 2 2) (.slice (some ⟨t4.heap.size + 1, 0, none⟩) 2 2) hm hy ⟨#[112, 101, 114, 115, 111, 110]⟩ ⟨#[116, 111, 112]⟩ rfl rfl 1 rfl (by simp)
      clear HQ
      have HQ := Lib.hid hp
      rw [sr2, ← hr2, ← hr1] at hrun
      clear hp hm hy hbb br1 sr1 xr1 hr1 br2 sr2 xr2 hr2
      go_upto_region 24 with (with_reducible refine oper_append13 (.tmp 99) (.tmp 103) 33 33 ?_ _ _ ?_ ?_ _ ?_ hrun ?_; rfl; simp [go_sem]; simp [go_sem]; with_reducible rfl)
      obtain ⟨t5, ht⟩ : ∃ x, w'.setCell ⟨w.heap.size + 1, 1, none⟩ (.slice a4' n4' c4') = x := ⟨_, rfl⟩
      rw [ht] at HQ
      simp only [ht]
      clear d0 d1 hc hf hrun ht hs
      obtain ⟨d0, d1, hs, -⟩ := HQ.out.cells
      obtain ⟨r1, hr1⟩ : ∃ x, t5.alloc (.cells #[.string ⟨#[117, 105, 100]⟩, .string ⟨#[109, 97, 105, 108]⟩, .string ⟨#[101, 109, 112, 108, 111, 121, 101, 101, 78, 117, 109, 98, 101, 114]⟩, .string ⟨#[97, 99, 116, 105, 118, 101]⟩] 9) = x := ⟨_, rfl⟩
      have br1 : Below t5.heap.size t5 r1 := by rw [← hr1]; exact (Below.refl _ t5).alloc (Nat.le_refl _) _
      have sr1 : r1.heap.size = t5.heap.size + 1 := by rw [← hr1]; simp
      have xr1 : r1.heap[t5.heap.size]? = some (.cells #[.string ⟨#[117, 105, 100]⟩, .string ⟨#[109, 97, 105, 108]⟩, .string ⟨#[101, 109, 112, 108, 111, 121, 101, 101, 78, 117, 109, 98, 101, 114]⟩, .string ⟨#[97, 99, 116, 105, 118, 101]⟩] 9) := by
        have h := heap_alloc_new t5 (.cells #[.string ⟨#[117, 105, 100]⟩, .string ⟨#[109, 97, 105, 108]⟩, .string ⟨#[101, 109, 112, 108, 111, 121, 101, 101, 78, 117, 109, 98, 101, 114]⟩, .string ⟨#[97, 99, 116, 105, 118, 101]⟩] 9)
        rw [hr1] at h; exact h
      have hbb : Below t5.heap.size t5 r1 := br1
      have hm : NewN t5.heap.size r1 (.slice none 0 0) [] := .inl ⟨rfl, rfl⟩
      have hy : NewN t5.heap.size r1 (.slice (some ⟨t5.heap.size, 0, none⟩) 4 4) [[117, 105, 100], [109, 97, 105, 108], [101, 109, 112, 108, 111, 121, 101, 101, 78, 117, 109, 98, 101, 114], [97, 99, 116, 105, 118, 101]] := .inr ⟨t5.heap.size, by omega, rfl, xr1⟩
      obtain ⟨a5', n5', c5', w', hrun, hc, hf, hp⟩ := HQ.out.push hbb ⟨[105, 110, 101, 116, 80, 101, 114, 115, 111, 110], [112, 101, 114, 115, 111, 110], 1, [], [[117, 105, 100], [109, 97, 105, 108], [101, 109, 112, 108, 111, 121, 101, 101, 78, 117, 109, 98, 101, 114], [97, 99, 116, 105, 118, 101]]⟩ (.slice none 0 0) (.slice (some ⟨t5.heap.size, 0, none⟩) 4 4) hm hy ⟨#[105, 110, 101, 116, 80, 101, 114, 115, 111, 110]⟩ ⟨#[112, 101, 114, 115, 111, 110]⟩ rfl rfl 1 rfl (by simp)
      clear HQ
      have HQ := Lib.hid hp
      rw [sr1, ← hr1] at hrun
      clear hp hm hy hbb br1 sr1 xr1 hr1
      go_upto_region 25 with (with_reducible refine oper_append13 (.tmp 107) (.tmp 110) 33 33 ?_ _ _ ?_ ?_ _ ?_ hrun ?_; rfl; simp [go_sem]; simp [go_sem]; with_reducible rfl)
      obtain ⟨t6, ht⟩ : ∃ x, w'.setCell ⟨w.heap.size + 1, 1, none⟩ (.slice a5' n5' c5') = x := ⟨_, rfl⟩
      rw [ht] at HQ
      simp only [ht]
      clear d0 d1 hc hf hrun ht hs
      obtain ⟨d0, d1, hs, -⟩ := HQ.out.cells
      obtain ⟨r1, hr1⟩ : ∃ x, t6.alloc (.cells #[.string ⟨#[99, 110]⟩, .string ⟨#[109, 101, 109, 98, 101, 114]⟩] 9) = x := ⟨_, rfl⟩
      have br1 : Below t6.heap.size t6 r1 := by rw [← hr1]; exact (Below.refl _ t6).alloc (Nat.le_refl _) _
      have sr1 : r1.heap.size = t6.heap.size + 1 := by rw [← hr1]; simp
      have xr1 : r1.heap[t6.heap.size]? = some (.cells #[.string ⟨#[99, 110]⟩, .string ⟨#[109, 101, 109, 98, 101, 114]⟩] 9) := by
        have h := heap_alloc_new t6 (.cells #[.string ⟨#[99, 110]⟩, .string ⟨#[109, 101, 109, 98, 101, 114]⟩] 9)
        rw [hr1] at h; exact h
      obtain ⟨r2, hr2⟩ : ∃ x, r1.alloc (.cells #[.string ⟨#[100, 101, 115, 99, 114, 105, 112, 116, 105, 111, 110]⟩] 9) = x := ⟨_, rfl⟩
      have br2 : Below r1.heap.size r1 r2 := by rw [← hr2]; exact (Below.refl _ r1).alloc (Nat.le_refl _) _
      have sr2 : r2.heap.size = t6.heap.size + 2 := by rw [← hr2]; simp [sr1]
      have xr2 : r2.heap[t6.heap.size + 1]? = some (.cells #[.string ⟨#[100, 101, 115, 99, 114, 105, 112, 116, 105, 111, 110]⟩] 9) := by
        have h := heap_alloc_new r1 (.cells #[.string ⟨#[100, 101, 115, 99, 114, 105, 112, 116, 105, 111, 110]⟩] 9)
        rw [hr2, sr1] at h; exact h
      have hbb : Below t6.heap.size t6 r2 := br1.trans (br2.mono (by omega))
      have hm : NewN t6.heap.size r2 (.slice (some ⟨t6.heap.size, 0, none⟩) 2 2) [[99, 110], [109, 101, 109, 98, 101, 114]] := .inr ⟨t6.heap.size, by omega, rfl, (br2.block _ (by omega)).trans xr1⟩
      have hy : NewN t6.heap.size r2 (.slice (some ⟨t6.heap.size + 1, 0, none⟩) 1 1) [[100, 101, 115, 99, 114, 105, 112, 116, 105, 111, 110]] := .inr ⟨t6.heap.size + 1, by omega, rfl, xr2⟩
      obtain ⟨a6', n6', c6', w', hrun, hc, hf, hp⟩ := HQ.out.push hbb ⟨[103, 114, 111, 117, 112], [116, 111, 112], 1, [[99, 110], [109, 101, 109, 98, 101, 114]], [[100, 101, 115, 99, 114, 105, 112, 116, 105, 111, 110]]⟩ (.slice (some ⟨t6.heap.size, 0, none⟩) 2 2) (.slice (some ⟨t6.heap.size + 1, 0, none⟩) 1 1) hm hy ⟨#[103, 114, 111, 117, 112]⟩ ⟨#[116, 111, 112]⟩ rfl rfl 1 rfl (by simp)
      clear HQ
      have HQ := Lib.hid hp
      rw [sr2, ← hr2, ← hr1] at hrun
      clear hp hm hy hbb br1 sr1 xr1 hr1 br2 sr2 xr2 hr2
      go_upto_region 26 with (with_reducible refine oper_append13 (.tmp 114) (.tmp 118) 33 33 ?_ _ _ ?_ ?_ _ ?_ hrun ?_; rfl; simp [go_sem]; simp [go_sem]; with_reducible rfl)
      obtain ⟨t7, ht⟩ : ∃ x, w'.setCell ⟨w.heap.size + 1, 1, none⟩ (.slice a6' n6' c6') = x := ⟨_, rfl⟩
      rw [ht] at HQ
      simp only [ht]
      clear d0 d1 hc hf hrun ht hs
      obtain ⟨d0, d1, hs, -⟩ := HQ.out.cells
      obtain ⟨r1, hr1⟩ : ∃ x, t7.alloc (.cells #[.string ⟨#[117, 115, 101, 114, 80, 97, 115, 115, 119, 111, 114, 100]⟩] 9) = x := ⟨_, rfl⟩
      have br1 : Below t7.heap.size t7 r1 := by rw [← hr1]; exact (Below.refl _ t7).alloc (Nat.le_refl _) _
      have sr1 : r1.heap.size = t7.heap.size + 1 := by rw [← hr1]; simp
      have xr1 : r1.heap[t7.heap.size]? = some (.cells #[.string ⟨#[117, 115, 101, 114, 80, 97, 115, 115, 119, 111, 114, 100]⟩] 9) := by
        have h := heap_alloc_new t7 (.cells #[.string ⟨#[117, 115, 101, 114, 80, 97, 115, 115, 119, 111, 114, 100]⟩] 9)
        rw [hr1] at h; exact h
      have hbb : Below t7.heap.size t7 r1 := br1
      have hm : NewN t7.heap.size r1 (.slice (some ⟨t7.heap.size, 0, none⟩) 1 1) [[117, 115, 101, 114, 80, 97, 115, 115, 119, 111, 114, 100]] := .inr ⟨t7.heap.size, by omega, rfl, xr1⟩
      have hy : NewN t7.heap.size r1 (.slice none 0 0) [] := .inl ⟨rfl, rfl⟩
      obtain ⟨a7', n7', c7', w', hrun, hc, hf, hp⟩ := HQ.out.push hbb ⟨[115, 101, 99, 117, 114, 101, 100], [116, 111, 112], 2, [[117, 115, 101, 114, 80, 97, 115, 115, 119, 111, 114, 100]], []⟩ (.slice (some ⟨t7.heap.size, 0, none⟩) 1 1) (.slice none 0 0) hm hy ⟨#[115, 101, 99, 117, 114, 101, 100]⟩ ⟨#[116, 111, 112]⟩ rfl rfl 2 rfl (by simp)
      clear HQ
      have HQ := Lib.hid hp
      rw [sr1, ← hr1] at hrun
      clear hp hm hy hbb br1 sr1 xr1 hr1
      go_upto_region 27 with (with_reducible refine oper_append13 (.tmp 122) (.tmp 125) 33 33 ?_ _ _ ?_ ?_ _ ?_ hrun ?_; rfl; simp [go_sem]; simp [go_sem]; with_reducible rfl)
      obtain ⟨t8, ht⟩ : ∃ x, w'.setCell ⟨w.heap.size + 1, 1, none⟩ (.slice a7' n7' c7') = x := ⟨_, rfl⟩
      rw [ht] at HQ
      simp only [ht]
      clear d0 d1 hc hf hrun ht hs
      obtain ⟨d0, d1, hs, -⟩ := HQ.out.cells
      obtain ⟨r1, hr1⟩ : ∃ x, t8.alloc (.cells #[.string ⟨#[117, 105, 100]⟩, .string ⟨#[109, 97, 105, 108]⟩] 9) = x := ⟨_, rfl⟩
      have br1 : Below t8.heap.size t8 r1 := by rw [← hr1]; exact (Below.refl _ t8).alloc (Nat.le_refl _) _
      have sr1 : r1.heap.size = t8.heap.size + 1 := by rw [← hr1]; simp
      have xr1 : r1.heap[t8.heap.size]? = some (.cells #[.string ⟨#[117, 105, 100]⟩, .string ⟨#[109, 97, 105, 108]⟩] 9) := by
        have h := heap_alloc_new t8 (.cells #[.string ⟨#[117, 105, 100]⟩, .string ⟨#[109, 97, 105, 108]⟩] 9)
        rw [hr1] at h; exact h
      have hbb : Below t8.heap.size t8 r1 := br1
      have hm : NewN t8.heap.size r1 (.slice none 0 0) [] := .inl ⟨rfl, rfl⟩
      have hy : NewN t8.heap.size r1 (.slice (some ⟨t8.heap.size, 0, none⟩) 2 2) [[117, 105, 100], [109, 97, 105, 108]] := .inr ⟨t8.heap.size, by omega, rfl, xr1⟩
      obtain ⟨a8', n8', c8', w', hrun, hc, hf, hp⟩ := HQ.out.push hbb ⟨[108, 97, 98, 101, 108, 108, 101, 100], [116, 111, 112], 2, [], [[117, 105, 100], [109, 97, 105, 108]]⟩ (.slice none 0 0) (.slice (some ⟨t8.heap.size, 0, none⟩) 2 2) hm hy ⟨#[108, 97, 98, 101, 108, 108, 101, 100]⟩ ⟨#[116, 111, 112]⟩ rfl rfl 2 rfl (by simp)
      clear HQ
      have HQ := Lib.hid hp
      rw [sr1, ← hr1] at hrun
      clear hp hm hy hbb br1 sr1 xr1 hr1
      go_upto_region 28 with (with_reducible refine oper_append13 (.tmp 129) (.tmp 132) 33 33 ?_ _ _ ?_ ?_ _ ?_ hrun ?_; rfl; simp [go_sem]; simp [go_sem]; with_reducible rfl)
      obtain ⟨t9, ht⟩ : ∃ x, w'.setCell ⟨w.heap.size + 1, 1, none⟩ (.slice a8' n8' c8') = x := ⟨_, rfl⟩
      rw [ht] at HQ
      simp only [ht]
      clear d0 d1 hc hf hrun ht hs
      obtain ⟨d0, d1, hs, hB⟩ := HQ.out.cells
      obtain ⟨TV, hTV⟩ : ∃ x, Value.slice a n c = x := ⟨_, rfl⟩
      have hk := HQ.out.res
      have hc0 : t9.cell? ⟨w.heap.size, 0, none⟩ = some (.slice none 0 0) := by rw [cell_of_row _ _ _ _ _ _ hk]; rfl
      have hc1 : t9.cell? ⟨w.heap.size, 1, none⟩ = some (.slice none 0 0) := by rw [cell_of_row _ _ _ _ _ _ hk]; rfl
      have hf0 := frozen_of_row _ _ 0 _ _ hk
      have hf1 := frozen_of_row _ _ 1 _ _ hk
      have hk4 := heap_setCell_same _ w.heap.size 1 _ 35 (.slice a8' n8' c8') (heap_setCell_same t9 w.heap.size 0 _ 35 (.slice a n c) hk)
      have hb4 : Below w.heap.size w ((t9.setCell ⟨w.heap.size, 0, none⟩ (.slice a n c)).setCell ⟨w.heap.size, 1, none⟩ (.slice a8' n8' c8')) := (hB.setCell (p := ⟨w.heap.size, 0, none⟩) (Nat.le_refl _) _).setCell (p := ⟨w.heap.size, 1, none⟩) (Nat.le_refl _) _
      have hb5 : ∀ k, k ≠ w.heap.size → ((t9.setCell ⟨w.heap.size, 0, none⟩ (.slice a n c)).setCell ⟨w.heap.size, 1, none⟩ (.slice a8' n8' c8')).heap[k]? = t9.heap[k]? := fun k hne => by
        rw [heap_setCell_other _ _ _ _ (fun h => hne h), heap_setCell_other _ _ _ _ (fun h => hne h)]
      obtain ⟨w4, hw4⟩ : ∃ u, ((t9.setCell ⟨w.heap.size, 0, none⟩ (.slice a n c)).setCell ⟨w.heap.size, 1, none⟩ (.slice a8' n8' c8')) = u := ⟨_, rfl⟩
      have hw4' := hw4
      rw [hw4] at hk4 hb4 hb5
      have hsz : t9.heap.size ≤ w4.heap.size := by rw [← hw4]; simp
      have HSC : Hid (∀ u, (∀ b, w.heap.size < b → b < w4.heap.size → u.heap[b]? = w4.heap[b]?) → IsSc u (.slice a n c) (.slice a8' n8' c8') Mt.core) := Lib.hid (fun u hu => by
        obtain ⟨g1, g2⟩ := HQ.out.far (u' := u) (fun b b1 b2 => (hu b b1 (by omega)).trans (hb5 b (by omega)))
        exact core_is g1 g2)
      have e0 : w4.cell? ⟨w.heap.size, 0, none⟩ = some (.slice a n c) := by rw [cell_of_row _ _ _ _ _ _ hk4]; rfl
      have e1' : w4.cell? ⟨w.heap.size, 1, none⟩ = some (.slice a8' n8' c8') := by rw [cell_of_row _ _ _ _ _ _ hk4]; rfl
      have HB4 := Lib.hid hb4
      clear hk hk4 hb4 hb5 hsz hw4' HQ hTV TV hB
      go_wp2_with fail
      refine bodyPost_ret (v := .agg #[.slice a n c, .slice a8' n8' c8']) (by simp [results, Tryz.results11, go_sem, e0, e1']) rfl ⟨_, _, rfl, HSC.out, HB4.out⟩
theorem rcore13_any (w : World) : Calls Tryz.prog 11 #[] w fun e w' => ∃ tv cv, e = .returned (.agg #[tv, cv]) ∧ IsSc w' tv cv Mt.core ∧ Below w.heap.size w w' :=
  (rcore13_far w).mono fun _ w' ⟨tv, cv, h1, h2, h3⟩ => ⟨tv, cv, h1, h2 w' (fun _ _ _ => rfl), h3⟩
end Go.Proofs.YtngdbhncafnliaaGreat
