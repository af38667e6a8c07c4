/-
  Some texts of one proof, one behind the other.
-/
import Derived.LoopTactic
import Derived.Test.YtnioagojiipjlaaGreatPk14
import Derived.Test.YtnioagojiipjlaaGreatPk16
import Derived.Test.YtnioagojiipjlaaGreatPk19

/-
  A row of cells, as it lies in memory.
-/
namespace Go.Proofs.YtnioagojiipjlaaGreat
open Go.RowKit
/-- The cells of a row. -/
def ccs (l : List Mt.Cl) : List Value := (l.map fun c => (clV c).toList).flatten
theorem ccs_cons (c : Mt.Cl) (l : List Mt.Cl) : ccs (c :: l) = (clV c).toList ++ ccs l := by simp [ccs]
theorem ccs_append (a b : List Mt.Cl) : ccs (a ++ b) = ccs a ++ ccs b := by simp [ccs]
theorem ccs_length : ∀ l : List Mt.Cl, (ccs l).length = l.length * 5
  | [] => rfl
  | c :: r => by rw [ccs_cons, List.length_append, ccs_length r, List.length_cons]; simp [clV]; omega
theorem ccs_get (l : List Mt.Cl) (k : Nat) (h : k < l.length) : ccs l = ccs (l.take k) ++ ((clV l[k]).toList ++ ccs (l.drop (k + 1))) := by
  rw [← ccs_cons, ← ccs_append]
  congr 1
  rw [← List.drop_eq_getElem_cons h, List.take_append_drop]
theorem set5 (A B : List Value) (x0 x1 x2 x3 x4 v0 v1 v2 v3 v4 : Value) (n : Nat) (hn : A.length = n) :
    (((((A ++ ([x0, x1, x2, x3, x4] ++ B)).set n v0).set (n + 1) v1).set (n + 2) v2).set (n + 3) v3).set (n + 4) v4 = A ++ ([v0, v1, v2, v3, v4] ++ B) := by
  subst hn
  rw [List.set_append_right _ _ (Nat.le_refl _), Nat.sub_self, List.set_append_right _ _ (by omega), List.set_append_right _ _ (by omega), List.set_append_right _ _ (by omega), List.set_append_right _ _ (by omega)]
  simp only [Nat.add_sub_cancel_left]
  rfl
theorem row_set (l : List Mt.Cl) (k : Nat) (h : k < l.length) (c : Mt.Cl) :
    ((((((ccs l).toArray.setIfInBounds (k * 5) (.int .u64 (c.gen : Int))).setIfInBounds (k * 5 + 1) (.int .u64 (c.number : Int))).setIfInBounds (k * 5 + 2) (.int .i64 (c.part : Int))).setIfInBounds (k * 5 + 3) (.int .i64 (c.parts : Int))).setIfInBounds (k * 5 + 4) (.string (Mt.str c.body))) = (ccs (l.set k c)).toArray := by
  apply Array.ext'
  simp only [Array.toList_setIfInBounds]
  rw [ccs_get l k h]
  have hl : (ccs (l.take k)).length = k * 5 := by rw [ccs_length, List.length_take]; congr 1; omega
  have e : (clV l[k]).toList = [.int .u64 ((l[k]).gen : Int), .int .u64 ((l[k]).number : Int), .int .i64 ((l[k]).part : Int), .int .i64 ((l[k]).parts : Int), .string (Mt.str (l[k]).body)] := rfl
  rw [e, set5 _ _ _ _ _ _ _ _ _ _ _ _ _ hl, List.set_eq_take_append_cons_drop, if_pos h, ccs_append, ccs_cons]
  rfl
theorem cellAt_row {w : World} {g : Nat} {l : List Mt.Cl} (h : w.heap[g]? = some (.cells (ccs l).toArray 106 (0, 0))) (k : Nat) (hk : k < l.length) : CellAt w g (k * 5) l[k] := by
  have hl : (ccs (l.take k)).length = k * 5 := by rw [ccs_length, List.length_take]; congr 1; omega
  have hg : ∀ i v, (clV l[k]).toList[i]? = some v → w.cell? ⟨g, k * 5 + i, none⟩ = some v := fun i v hv => by
    rw [cell_of_row _ _ _ _ _ _ h, List.getElem?_toArray, ccs_get l k hk, List.getElem?_append_right (by omega), hl, Nat.add_sub_cancel_left]
    have : i < (clV l[k]).toList.length := by
      rcases Nat.lt_or_ge i (clV l[k]).toList.length with h | h
      · exact h
      · rw [List.getElem?_eq_none h] at hv; cases hv
    rw [List.getElem?_append_left this]
    exact hv
  exact ⟨hg 0 _ rfl, hg 1 _ rfl, hg 2 _ rfl, hg 3 _ rfl, hg 4 _ rfl⟩
theorem isCls_row {w : World} {g n : Nat} {l : List Mt.Cl} (hn : l.length = n) (h : w.heap[g]? = some (.cells (ccs l).toArray 106 (0, 0))) : IsCls w (.slice (some ⟨g, 0, none⟩) n n) l := by
  subst hn
  exact ⟨some ⟨g, 0, none⟩, l.length, rfl, Nat.le_refl _, .inr ⟨g, 0, rfl, lt_of_block h, fun j hj => by rw [Nat.zero_add]; exact cellAt_row h j hj⟩⟩
/-- A part of a row. -/
theorem isCls_part {w : World} {g n : Nat} {l : List Mt.Cl} (hn : l.length = n) (h : w.heap[g]? = some (.cells (ccs l).toArray 106 (0, 0))) (a b cap : Nat) (hab : a + b ≤ n) (hc : b ≤ cap) : IsCls w (.slice (some ⟨g, a * 5, none⟩) b cap) ((l.drop a).take b) := by
  have hl : ((l.drop a).take b).length = b := by rw [List.length_take, List.length_drop]; omega
  refine ⟨some ⟨g, a * 5, none⟩, cap, by rw [hl], by omega, .inr ⟨g, a * 5, rfl, lt_of_block h, fun j hj => ?_⟩⟩
  have := cellAt_row h (a + j) (by omega)
  rw [show a * 5 + j * 5 = (a + j) * 5 by omega, List.getElem_take, List.getElem_drop]
  exact this
theorem Tryz.infoCl : (Tryz.prog.info? 106).map (fun i => (i.zero, i.size, i.bytes)) = some (some (.agg zcV), 5, 48) := by kernel_rfl
theorem ccs_zero : ∀ n : Nat, ccs (List.replicate n Mt.Cl.zero) = (List.replicate n (zcV.toList)).flatten
  | 0 => rfl
  | n + 1 => by rw [List.replicate_succ, ccs_cons, ccs_zero n]; rfl
theorem zero_row (n i : Nat) (hi : i < n * 5) : (ccs (List.replicate n Mt.Cl.zero))[i]? = zcV[i % 5]? := by
  have hk : i / 5 < (List.replicate n Mt.Cl.zero).length := by rw [List.length_replicate]; omega
  have hl : (ccs ((List.replicate n Mt.Cl.zero).take (i / 5))).length = i / 5 * 5 := by rw [ccs_length, List.length_take]; congr 1; omega
  rw [ccs_get (List.replicate n Mt.Cl.zero) (i / 5) hk, List.getElem?_append_right (by omega), hl, List.getElem?_append_left (by simp [clV]; omega)]
  rw [show i - i / 5 * 5 = i % 5 by omega]
  simp only [List.getElem_replicate]
  show zcV.toList[i % 5]? = _
  rw [Array.getElem?_toList]
theorem made_cells (n : Nat) : madeCells (Value.agg zcV).cells (n * 5) = (ccs (List.replicate n Mt.Cl.zero)).toArray := by
  apply Array.ext_getElem?
  intro i
  have hs : (Value.agg zcV).cells = zcV := rfl
  have e2 : (ccs (List.replicate n Mt.Cl.zero)).toArray[i]? = (ccs (List.replicate n Mt.Cl.zero))[i]? := by simp
  rw [e2]
  by_cases hi : i < n * 5
  · rw [zero_row n i hi, hs]
    have h5 : i % 5 < zcV.size := Nat.mod_lt _ (by decide)
    unfold madeCells
    rw [Array.getElem?_map, Array.getElem?_range, if_pos hi, Option.map_some, Array.getElem?_eq_getElem h5]
    congr 1
    exact getElem!_pos zcV (i % 5) h5
  · rw [List.getElem?_eq_none (by rw [ccs_length, List.length_replicate]; omega), Array.getElem?_eq_none]
    unfold madeCells
    simp; omega
theorem make_cls (k : Nat) (hk : k ≤ 100000) (w : World) : (Instr.makeSlice 104 (.int .i64 (k : Int)) (.int .i64 (k : Int))).run Tryz.prog w = .ok (.slice (some ⟨w.heap.size, 0, none⟩) k k) (w.alloc (.cells (ccs (List.replicate k Mt.Cl.zero)).toArray 106)) := by
  obtain ⟨i, hi, hz, hs, hb⟩ := info_parts Tryz.infoCl
  have h := run_make (P := Tryz.prog) w 104 106 i _ Tryz.underlying104 hi hz .i64 .i64 (k : Int) (k : Int) (by omega) (Int.le_refl _) (by rw [hb]; omega) (by omega)
  rw [Int.toNat_natCast, hs, made_cells] at h
  exact h
end Go.Proofs.YtnioagojiipjlaaGreat

/-
  What find goes through: a row of cells, sector by sector.
-/
namespace Go.Proofs.YtnioagojiipjlaaGreat
open Go.RowKit
/-- The row behind k sectors. -/
def Mt.hlRow (d : Mt.Dk) (N k : Nat) : List Mt.Cl := [Mt.Cl.zero, Mt.Cl.zero] ++ (d.cellsFrom 2 (k - 2) ++ List.replicate (N - k) Mt.Cl.zero)
theorem Mt.cellsFrom_length (d : Mt.Dk) (a n : Nat) : (d.cellsFrom a n).length = n := by simp [Mt.Dk.cellsFrom]
theorem Mt.hlRow_length (d : Mt.Dk) (N k : Nat) (h2 : 2 ≤ k) (hk : k ≤ N) : (Mt.hlRow d N k).length = N := by
  unfold Mt.hlRow
  simp only [List.length_append, Mt.cellsFrom_length, List.length_replicate, List.length_cons, List.length_nil]
  omega
theorem Mt.hlRow_two (d : Mt.Dk) (N : Nat) (h : 2 ≤ N) : Mt.hlRow d N 2 = List.replicate N Mt.Cl.zero := by
  unfold Mt.hlRow Mt.Dk.cellsFrom
  obtain ⟨m, rfl⟩ : ∃ m, N = m + 2 := ⟨N - 2, by omega⟩
  rw [List.replicate_succ, List.replicate_succ]
  simp
theorem Mt.cellsFrom_snoc (d : Mt.Dk) (a n : Nat) : d.cellsFrom a (n + 1) = d.cellsFrom a n ++ [Mt.rdCell (d.sec (a + n))] := by
  unfold Mt.Dk.cellsFrom
  rw [List.range_succ, List.map_append]; rfl
theorem Mt.hlRow_set (d : Mt.Dk) (N k : Nat) (h2 : 2 ≤ k) (hk : k < N) : (Mt.hlRow d N k).set k (Mt.rdCell (d.sec k)) = Mt.hlRow d N (k + 1) := by
  unfold Mt.hlRow
  have e : N - k = (N - (k + 1)) + 1 := by omega
  have e2 : k + 1 - 2 = (k - 2) + 1 := by omega
  have hl := Mt.cellsFrom_length d 2 (k - 2)
  rw [List.set_append_right _ _ (by simpa using h2), List.length_cons, List.length_cons, List.length_nil, List.set_append_right _ _ (by rw [hl]; omega), hl, show k - (0 + 1 + 1) - (k - 2) = 0 by omega, e, List.replicate_succ, List.set_cons_zero, e2, Mt.cellsFrom_snoc, show 2 + (k - 2) = k by omega]
  simp
theorem Mt.hlRow_full (d : Mt.Dk) (N : Nat) : Mt.hlRow d N N = [Mt.Cl.zero, Mt.Cl.zero] ++ d.cellsFrom 2 (N - 2) := by
  unfold Mt.hlRow
  simp
theorem Mt.greatest_row (d : Mt.Dk) (N a b : Nat) : Mt.greatest (Mt.hlRow d N N) a b = Mt.greatest (d.cellsFrom 2 (N - 2)) a b := by
  rw [Mt.hlRow_full]
  simp [Mt.greatest, Mt.Cl.zero]
theorem Mt.part_row (d : Mt.Dk) (z h : Nat) (hh : h ≤ 1) : ((Mt.hlRow d (2 + 2 * z) (2 + 2 * z)).drop (2 + h * z)).take z = d.cellsFrom (2 + h * z) z := by
  have hlen : h * z + z ≤ 2 * z := by
    have : h = 0 ∨ h = 1 := by omega
    rcases this with rfl | rfl <;> omega
  rw [Mt.hlRow_full, show 2 + 2 * z - 2 = 2 * z by omega, ← List.drop_drop]
  have e : ([Mt.Cl.zero, Mt.Cl.zero] ++ d.cellsFrom 2 (2 * z)).drop 2 = d.cellsFrom 2 (2 * z) := rfl
  rw [e]
  apply List.ext_getElem
  · rw [List.length_take, List.length_drop, Mt.cellsFrom_length, Mt.cellsFrom_length]; omega
  · intro i h1 h2
    rw [List.getElem_take, List.getElem_drop]
    simp only [Mt.Dk.cellsFrom, List.getElem_map, List.getElem_range]
    rw [show 2 + (h * z + i) = 2 + h * z + i by omega]
theorem Mt.row_body (d : Mt.Dk) (a n : Nat) : ∀ c ∈ d.cellsFrom a n, c.body.length ≤ 110 := by
  intro c hc
  unfold Mt.Dk.cellsFrom at hc
  rw [List.mem_map] at hc
  obtain ⟨i, _, rfl⟩ := hc
  unfold Mt.rdCell
  split
  · rename_i h
    show ((List.drop 18 _).take _).length ≤ 110
    rw [List.length_take]
    have := h.2.2.1
    omega
  · show (0 : Nat) ≤ 110; omega
end Go.Proofs.YtnioagojiipjlaaGreat

/-
  The document's Records.
-/
namespace Go.Proofs.YtnioagojiipjlaaGreat
open Go.RowKit Go.Maps
theorem Mt.sec_len {d : Mt.Dk} (ho : d.Ok) (hf : d.off = false) {i : Nat} (hi : i < d.lasts.length) : (d.sec i).length = 128 := by
  have ha : d.ask (i : Int) = 0 := by unfold Mt.Dk.ask; rw [hf]; simp; omega
  have h1 : d.sec i = (d.waits.getD i none).getD (d.lasts.getD i []) := by unfold Mt.Dk.sec Mt.Dk.read; rw [if_pos ha]; rfl
  rw [h1]
  cases hw : d.waits.getD i none with
  | none =>
    have e : d.lasts.getD i [] = d.lasts[i] := by simp [List.getD, List.getElem?_eq_getElem hi]
    show (d.lasts.getD i []).length = 128
    rw [e]
    exact ho.lasts i hi
  | some b =>
    refine ho.waits i b ?_
    rw [List.getD_eq_getElem?_getD] at hw
    cases hx : d.waits[i]? with
    | none => rw [hx] at hw; cases hw
    | some y => rw [hx] at hw; simp at hw; rw [hw]
theorem Mt.read_sec {d : Mt.Dk} (hf : d.off = false) {i : Nat} (hi : i < d.lasts.length) : d.read (i : Int) = (d.sec i, 0) := by
  have h := Mt.read_on hf hi
  unfold Mt.Dk.sec
  rw [← h]
theorem Mt.isCl_parts {s : List UInt8} (h : Mt.isCl s) : (Mt.rdCell s).part < (Mt.rdCell s).parts := by
  have h2 := h.2.2.2.1
  unfold Mt.rdCell
  rw [if_pos h]
  unfold Mt.Cl.sound at h2
  split at h2
  · cases h2
  · omega
theorem Mt.rdCell_parts (s : List UInt8) : (Mt.rdCell s).parts < 65536 := by
  unfold Mt.rdCell
  split
  · have := Mt.gn_lt s 15 2
    show Mt.gn s 15 2 < _
    omega
  · show 0 < 65536; omega
theorem Mt.rdCell_not {s : List UInt8} (h : ¬ Mt.isCl s) : Mt.rdCell s = Mt.Cl.zero := by unfold Mt.rdCell; rw [if_neg h]
theorem Mt.record_none {l : List Mt.Cl} {gen m : Nat} (h : (l.getD 0 Mt.Cl.zero).parts = 0) : (Mt.record l gen m).2 = 0 := by
  unfold Mt.record
  split
  · rfl
  · split
    · exact h
    · rfl
theorem Mt.rec_stop {s : List UInt8} {l : List Mt.Cl} {gen m : Nat} (hl : 0 < l.length) (h0 : l[0] = Mt.rdCell s) (hn : ¬ (Mt.isCl s ∧ (Mt.rdCell s).gen = gen ∧ (Mt.rdCell s).number = m ∧ (Mt.rdCell s).part = 0 ∧ (Mt.rdCell s).parts ≤ l.length)) : (Mt.record l gen m).2 = 0 := by
  have hd : l.getD 0 Mt.Cl.zero = Mt.rdCell s := by rw [List.getD_eq_getElem?_getD, List.getElem?_eq_getElem hl, Option.getD_some, h0]
  by_cases hi : Mt.isCl s
  · by_cases hf : l.length < (Mt.rdCell s).parts
    · rw [Mt.record_far (by rw [hd]; exact hf)]
    · have hp := Mt.isCl_parts hi
      rw [Mt.record_bad hl (by rw [hd]; omega) (fun hc => hn ?_)]
      rw [h0] at hc
      exact ⟨hi, hc.1, hc.2.1, hc.2.2.2, by omega⟩
  · exact Mt.record_none (by rw [hd, Mt.rdCell_not hi]; rfl)
theorem Mt.rec_stop2 {s : List UInt8} {l : List Mt.Cl} {gen m k P : Nat} (hg : gen ≠ 0) (hk : k < l.length) (hP : (l.getD 0 Mt.Cl.zero).parts = P) (hp : k < P) (h0 : l[k] = Mt.rdCell s) (hn : ¬ (Mt.isCl s ∧ (Mt.rdCell s).gen = gen ∧ (Mt.rdCell s).number = m ∧ (Mt.rdCell s).part = k ∧ (Mt.rdCell s).parts = P)) : (Mt.record l gen m).2 = 0 := by
  rw [Mt.record_bad hk (by rw [hP]; exact hp) (fun hc => hn ?_)]
  rw [h0, hP] at hc
  by_cases hi : Mt.isCl s
  · exact ⟨hi, hc.1, hc.2.1, hc.2.2.2, hc.2.2.1⟩
  · exfalso
    have h1 := hc.1
    rw [Mt.rdCell_not hi] at h1
    exact hg h1.symm
/-- How a chain of tests goes: the first that is against it, or none. -/
inductive Chain5 : Bool → Bool → Bool → Bool → Bool → Bool → Prop
  | a (v2 v3 v4 v5) : Chain5 false v2 v3 v4 v5 false
  | b (v3 v4 v5) : Chain5 true true v3 v4 v5 false
  | c (v4 v5) : Chain5 true false true v4 v5 false
  | d (v5) : Chain5 true false false true v5 false
  | e : Chain5 true false false false true false
  | ok : Chain5 true false false false false true
theorem chain5 (v1 v2 v3 v4 v5 : Bool) : ∃ z, Chain5 v1 v2 v3 v4 v5 z := by
  cases v1
  · exact ⟨_, .a ..⟩
  cases v2
  · cases v3
    · cases v4
      · cases v5
        · exact ⟨_, .ok⟩
        · exact ⟨_, .e⟩
      · exact ⟨_, .d ..⟩
    · exact ⟨_, .c ..⟩
  · exact ⟨_, .b ..⟩
theorem Chain5.no {v1 v2 v3 v4 v5 : Bool} (h : Chain5 v1 v2 v3 v4 v5 false) : ¬ (v1 = true ∧ v2 = false ∧ v3 = false ∧ v4 = false ∧ v5 = false) := by
  rintro ⟨rfl, rfl, rfl, rfl, rfl⟩
  cases h
theorem Chain5.yes {v1 v2 v3 v4 v5 : Bool} (h : Chain5 v1 v2 v3 v4 v5 true) : v1 = true ∧ v2 = false ∧ v3 = false ∧ v4 = false ∧ v5 = false := by
  cases h; exact ⟨rfl, rfl, rfl, rfl, rfl⟩
theorem ne_false_iff (a b : Nat) : ((a : Int) != (b : Int)) = false ↔ a = b := by
  constructor
  · intro h
    have := (bne_eq_false_iff_eq).1 h
    omega
  · rintro rfl
    simp
/-- One element more; what was made behind the row's last turn stays. -/
theorem own_past {E T tx : TypeId} {s base n by' K : Nat} {w0 w : World} {v : Value} {xs : List Value} {i : TypeInfo} {z : Value} (ht : Tryz.prog.underlying T = some (.slice E)) (htx : Tryz.prog.underlying tx = some (.slice E)) (hi : Tryz.prog.info? E = some i) (hz : i.zero = some z) (hs : i.size = s) (hby : i.bytes = by') (hzs : z.cells.size = s)
    (h : IsOwn E s base w0 v n xs) (hK : w0.heap.size = K) (hb : Below K w0 w) (hbase : base ≤ K) (h1 : ∀ u ∈ xs, u.oneCell' = true) (cells : Array Value) (hc : cells.size = s) (hc1 : ∀ u ∈ cells.toList, u.oneCell' = true) (hfit : (n + 1) * by' ≤ 140737488355328) (h63 : n + 1 ≤ 4611686018427387904) :
    ∃ a' c' w', (∀ ty, (Builtin.append_ #[T, tx] ty #[v, .slice (some ⟨w.heap.size, 0, none⟩) 1 1]).run Tryz.prog (w.alloc (.cells cells E)) = .ok (.slice a' (n + 1) c') w') ∧ IsOwn E s base w' (.slice a' (n + 1) c') (n + 1) (xs ++ cells.toList) ∧ Below base w w' ∧ ∀ k, K ≤ k → k < w.heap.size → w'.heap[k]? = w.heap[k]? := by
  subst hK
  have hsw := hb.size
  obtain ⟨g, hg, hr⟩ := h
  have hn : ∃ g, base ≤ g ∧ (g < w0.heap.size ∨ w.heap.size < g) ∧ IsRw E s w g v n xs := by
    rcases hr.norm (w.heap.size + base + 1) with h2 | h2
    · exact ⟨g, hg, .inl h2, hr.below hb⟩
    · exact ⟨_, by omega, .inr (by omega), h2.below hb⟩
  obtain ⟨g, hg, hgk, h⟩ := hn
  have hbel := (Below.refl w.heap.size w).alloc (Nat.le_refl _) (.cells cells E)
  have h := h.below hbel
  have src : Src Tryz.prog i.size tx (.slice (some ⟨w.heap.size, 0, none⟩) 1 1) 1 cells.toList (w.alloc (.cells cells E)) :=
    Src.ofSlice _ htx ⟨w.heap.size, 0, none⟩ 1 1 _ (by rw [hs, Array.length_toList, hc, Nat.one_mul]) (fun j u hu => by
      rw [add_off, cell_of_row _ w.heap.size _ _ _ _ (heap_alloc_new w _), Nat.zero_add]
      simpa using hu) hc1
  obtain ⟨v', w', g', hrun, hrw, hg', ho⟩ := rw_append (T := T) (tx := tx) ht hi hz hs hby hzs h h1 _ 1 cells.toList src hfit h63
  obtain ⟨a', c', rfl⟩ := hrw.form
  have hsz : (w.alloc (.cells cells E)).heap.size = w.heap.size + 1 := by simp
  refine ⟨a', c', w', hrun, ⟨g', ?_, hrw⟩, ?_, fun k hk1 hk2 => ?_⟩
  · rcases hg' with rfl | rfl
    · exact hg
    · rw [hsz]; omega
  · have h2 := ho.toBelow (D := base) (by simpa using hg) (by rw [hsz]; omega)
    exact (hbel.mono (by omega)).trans h2
  · rw [ho.block k (by rw [hsz]; omega) (by simp; omega)]
    exact hbel.block k hk2
/-- What Records keeps. -/
structure RecQ (w wr : World) (gen : Nat) (L : List Mt.Cl) (p : Nat) (out : List (List UInt8)) (vo : Value) : Prop where
  own : IsOwn 9 1 w.heap.size wr vo out.length (tcs out)
  rest : ∃ f, (L.drop p).length ≤ f ∧ Mt.records L gen = out ++ Mt.recordsF f (L.drop p) gen out.length
  less : out.length ≤ p
  below : Below w.heap.size w wr
theorem RecQ.fin {w wr : World} {gen p : Nat} {L : List Mt.Cl} {out : List (List UInt8)} {vo : Value} (h : RecQ w wr gen L p out vo) (h0 : (L.drop p).length = 0 ∨ (Mt.record (L.drop p) gen out.length).2 = 0) : Mt.records L gen = out := by
  obtain ⟨f, _, h2⟩ := h.rest
  rw [h2, Mt.recordsF_none h0, List.append_nil]
end Go.Proofs.YtnioagojiipjlaaGreat
