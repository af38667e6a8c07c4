/-
  Some texts of one proof, one behind the other.
-/
import Derived.Lib.OthersKept
import Derived.Deep.AppendSrc
import Derived.Deep.Upon
import Derived.Test.YtnioagojiipjlaaGreatPk2
import Derived.Test.YtnioagojiipjlaaGreatPk17

/-
  What readAll comes to: the sectors of a disk.
-/
namespace Go.Proofs.YtnioagojiipjlaaGreat
open Go.RowKit

theorem Tryz.infoStr6 : (Tryz.prog.info? 9).map (fun i => (i.zero, i.size, i.bytes)) = some (some (.string ⟨#[]⟩), 1, 16) := by kernel_rfl
theorem make_strs (k : Nat) (hk : k ≤ 100000) (w : World) : (Instr.makeSlice 30 (.int .i64 (k : Int)) (.int .i64 (k : Int))).run Tryz.prog w = .ok (.slice (some ⟨w.heap.size, 0, none⟩) k k) (w.alloc (.cells (Array.replicate k (.string ⟨#[]⟩)) 9)) := by
  obtain ⟨i, hi, hz, hs, hb⟩ := info_parts Tryz.infoStr6
  have h := run_make (P := Tryz.prog) w 30 9 i _ Tryz.underlying30 hi hz .i64 .i64 (k : Int) (k : Int) (by omega) (Int.le_refl _) (by rw [hb]; omega) (by omega)
  rw [Int.toNat_natCast, hs, Nat.mul_one] at h
  have e : madeCells (Value.string ⟨#[]⟩).cells k = Array.replicate k (.string ⟨#[]⟩) := made_all _ (.string ⟨#[]⟩) k 1 rfl (by decide) (fun j hj => by (obtain rfl : j = 0 := by omega); rfl)
  rw [e] at h
  exact h
/-- The cells of texts. -/
def tcs (ls : List (List UInt8)) : List Value := ls.map fun l => Value.string (Mt.str l)
theorem tcs_length (ls : List (List UInt8)) : (tcs ls).length = ls.length := by simp [tcs]
theorem tcs_append (a b : List (List UInt8)) : tcs (a ++ b) = tcs a ++ tcs b := by simp [tcs]
/-- A row of texts, of which so many are there. -/
def trow (ls : List (List UInt8)) (k : Nat) : Array Value := (tcs (ls.take k) ++ List.replicate (ls.length - k) (Value.string ⟨#[]⟩)).toArray
theorem trow_zero (ls : List (List UInt8)) : trow ls 0 = Array.replicate ls.length (Value.string ⟨#[]⟩) := by
  unfold trow tcs
  apply Array.ext'
  simp
theorem trow_size (ls : List (List UInt8)) (k : Nat) (h : k ≤ ls.length) : (trow ls k).size = ls.length := by
  unfold trow
  simp [tcs_length]; omega
theorem trow_set (ls : List (List UInt8)) (k : Nat) (h : k < ls.length) : (trow ls k).setIfInBounds k (.string (Mt.str ls[k])) = trow ls (k + 1) := by
  unfold trow
  apply Array.ext'
  have hl : (tcs (ls.take k)).length = k := by rw [tcs_length, List.length_take]; omega
  have e : ls.length - k = (ls.length - (k + 1)) + 1 := by omega
  rw [Array.toList_setIfInBounds, List.set_append_right _ _ (by rw [hl]; exact Nat.le_refl _), hl, Nat.sub_self, e, List.replicate_succ, List.set_cons_zero, List.take_succ_eq_append_getElem h, tcs_append, List.append_assoc]
  rfl
theorem trow_full (ls : List (List UInt8)) : trow ls ls.length = (tcs ls).toArray := by
  unfold trow
  simp
theorem trow_cell (ls : List (List UInt8)) (k j : Nat) (h : k ≤ ls.length) (hj : j < ls.length) : ∃ v : Value, (trow ls k)[j]? = some v := by
  have : j < (trow ls k).size := by rw [trow_size ls k h]; exact hj
  exact ⟨_, Array.getElem?_eq_getElem this⟩
/-- What stands in the sectors. -/
def Mt.secsL (d : Mt.Dk) : List (List UInt8) := (List.range d.lasts.length).map fun i => d.sec i
theorem Mt.secsL_length (d : Mt.Dk) : (Mt.secsL d).length = d.lasts.length := by simp [Mt.secsL]
theorem Mt.secsL_get (d : Mt.Dk) (k : Nat) (h : k < (Mt.secsL d).length) : (Mt.secsL d)[k] = (d.read (k : Int)).1 := by simp [Mt.secsL, Mt.Dk.sec]
theorem Mt.read_on {d : Mt.Dk} (ho : d.off = false) {k : Nat} (hk : k < d.lasts.length) : (d.read (k : Int)).2 = 0 := by
  have : d.ask (k : Int) = 0 := by unfold Mt.Dk.ask; rw [ho]; simp; omega
  unfold Mt.Dk.read
  rw [if_pos this]
theorem Mt.read_off {d : Mt.Dk} (ho : d.off = true) (i : Int) : d.read i = ([], 10) := by
  have : d.ask i = 10 := by unfold Mt.Dk.ask; rw [ho]; rfl
  unfold Mt.Dk.read
  rw [this]; simp
theorem isTs_row {w : World} {g n : Nat} {ls : List (List UInt8)} (hn : ls.length = n) (h : w.heap[g]? = some (.cells (tcs ls).toArray 9 (0, 0))) : IsTs w (.slice (some ⟨g, 0, none⟩) n n) ls := by
  subst hn
  refine ⟨some ⟨g, 0, none⟩, ls.length, rfl, Nat.le_refl _, .inr ⟨g, 0, rfl, lt_of_block h, fun j hj => ?_⟩⟩
  rw [cell_of_row _ _ _ _ _ _ h]
  simp [tcs, List.getElem?_eq_getElem hj]

section
variable {w u : World} {B bl bm : Nat} {d : Mt.Dk}
set_option maxRecDepth 100000 in
theorem readAll_off (h : IsDisk w B bl bm d) (ho : d.off = true) (h0 : 0 < d.lasts.length) : Calls Tryz.prog 37 #[.pointer (some ⟨B, 0, none⟩)] w fun e w' => e = .returned (.tuple #[.slice none 0 0, .int .i64 10]) ∧ Below w.heap.size w w' := by
  have hn8 := h.ok.most
  have HS := Lib.hid (sectors_any h)
  have HMK := Lib.hid (make_strs d.lasts.length (by omega))
  have HRD := Lib.hid (fun u (hb : Below w.heap.size w u) => read_any (h.below hb) 0)
  have HRV := Lib.hid (Mt.read_off ho 0)
  clear h ho
  generalize d.lasts.length = n at *
  have HB1 := Lib.hid ((Below.refl w.heap.size w).alloc (Nat.le_refl _) (.cells (Array.replicate n (.string ⟨#[]⟩)) 9))
  have hmk := HMK.out
  go_enter Tryz.func37, Tryz.ntmps37
  go_wp2_with fail
  refine (HS.out).mono ?_
  rintro e w1 ⟨rfl, rfl⟩
  go_wp2_with fail
  clear hmk
  refine wp_loop_rounds 1 ?_
  rw [rounds_succ]
  go_wp2_with fail
  refine (HRD.out _ HB1.out).mono ?_
  rintro e w2 ⟨rfl, hb⟩
  rw [HRV.out]
  have HB2 := Lib.hid (HB1.out.trans (hb.mono HB1.out.size))
  clear hb
  go_wp2_with fail
  go_ret2
  exact ⟨rfl, HB2.out⟩
set_option maxRecDepth 100000 in
theorem readAll_on (h : IsDisk w B bl bm d) (ho : d.off = false) : Calls Tryz.prog 37 #[.pointer (some ⟨B, 0, none⟩)] w fun e w' => ∃ v, e = .returned (.tuple #[v, .int .i64 0]) ∧ IsTs w' v (Mt.secsL d) ∧ Below w.heap.size w w' := by
  have hn8 := h.ok.most
  have HS := Lib.hid (sectors_any h)
  have HMK := Lib.hid (make_strs d.lasts.length (by omega))
  have HRD := Lib.hid (fun u (hb : Below w.heap.size w u) (i : Int) => read_any (h.below hb) i)
  have HRV := Lib.hid (fun k (hk : k < d.lasts.length) => Mt.read_on ho hk)
  have HSL := Lib.hid (Mt.secsL_length d)
  have HSG := Lib.hid (fun k hk => Mt.secsL_get d k hk)
  have HR0 := Lib.hid (trow_zero (Mt.secsL d))
  have HRS := Lib.hid (fun k hk => trow_set (Mt.secsL d) k hk)
  have HRC := Lib.hid (fun k j h hj => trow_cell (Mt.secsL d) k j h hj)
  have HRF := Lib.hid (trow_full (Mt.secsL d))
  have HPOST : Hid (∀ (v : Value) (w' : World), IsTs w' v (Mt.secsL d) → Below w.heap.size w w' → (fun (e : Ending) (w' : World) => ∃ v, e = .returned (.tuple #[v, .int .i64 0]) ∧ IsTs w' v (Mt.secsL d) ∧ Below w.heap.size w w') (.returned (.tuple #[v, .int .i64 0])) w') := Lib.hid (fun v w' h1 h2 => ⟨v, rfl, h1, h2⟩)
  generalize hPP : (fun (e : Ending) (w' : World) => ∃ v, e = .returned (.tuple #[v, .int .i64 0]) ∧ IsTs w' v (Mt.secsL d) ∧ Below w.heap.size w w') = PP at *
  clear h ho hPP
  generalize Mt.secsL d = ls at *
  generalize d.lasts.length = n at *
  rw [HSL.out] at HR0 HRF HRC
  have hb1 := (Below.refl w.heap.size w).alloc (Nat.le_refl _) (.cells (trow ls 0) 9)
  have hx1 := heap_alloc_new w (.cells (trow ls 0) 9)
  rw [HR0.out] at hb1 hx1
  have HB1 := Lib.hid hb1
  have HX1 := Lib.hid hx1
  clear hb1 hx1
  have hmk := HMK.out
  go_enter Tryz.func37, Tryz.ntmps37
  go_wp2_with fail
  refine (HS.out).mono ?_
  rintro e w1 ⟨rfl, rfl⟩
  go_wp2_with fail
  clear hmk
  go_loopw [5, 6, 7, 13] (fun _ _ _ i wr => ∃ k : Nat, k ≤ n ∧ i = .int .i64 k ∧ Hid (Below w.heap.size w wr) ∧ Hid (wr.heap[w.heap.size]? = some (.cells (trow ls k) 9 (0, 0)))) (fun _ _ _ i _ => n - (intOf i).toNat)
  case atStart => exact ⟨0, Nat.zero_le _, rfl, HB1, Lib.hid (by rw [HR0.out]; exact HX1.out)⟩
  case round =>
    obtain ⟨k, hk, rfl, HB, HX⟩ := hrel
    by_cases hlt : k < n
    · have hkl : k < ls.length := by rw [HSL.out]; exact hlt
      go_wp2_with fail
      refine (HRD.out _ HB.out _).mono ?_
      rintro e w2 ⟨rfl, hb⟩
      rw [HRV.out k hlt, ← HSG.out k hkl]
      have HB2 := Lib.hid (HB.out.trans (hb.mono HB.out.size))
      have hx2 := (hb.block _ (lt_of_block HX.out)).trans HX.out
      obtain ⟨v0, hv0⟩ := HRC.out k k hk hlt
      have hc0 : w2.cell? ⟨w.heap.size, k, none⟩ = some v0 := by rw [cell_of_row _ _ _ _ _ _ hx2]; exact hv0
      have hf0 : w2.frozen? ⟨w.heap.size, k, none⟩ = false := frozen_of_row _ _ _ _ _ hx2
      have HX3 := Lib.hid (show (w2.setCell ⟨w.heap.size, k, none⟩ (.string (Mt.str ls[k]))).heap[w.heap.size]? = some (.cells (trow ls (k + 1)) 9 (0, 0)) by rw [heap_setCell_same _ _ _ _ _ _ hx2, HRS.out k hkl])
      have HB3 := Lib.hid (HB2.out.setCell (p := ⟨w.heap.size, k, none⟩) (Nat.le_refl _) (.string (Mt.str ls[k])))
      clear hb hx2 hv0
      generalize Mt.str ls[k] = S at *
      go_wp2_with fail
      go_roundw
      case rel => exact ⟨k + 1, by omega, by go_num, HB3, HX3⟩
      case measure => simp [intOf]; omega
    · obtain rfl : k = n := by omega
      go_wp2_with fail
      exact HPOST.out _ _ (isTs_row HSL.out (by rw [← HRF.out]; exact HX.out)) HB.out
end
end Go.Proofs.YtnioagojiipjlaaGreat

/-
  Cells in a slice; what greatest comes to.
-/
namespace Go.Proofs.YtnioagojiipjlaaGreat
open Go.RowKit

/-- A cell lies there. -/
def CellAt (w : World) (b o : Nat) (c : Mt.Cl) : Prop :=
  w.cell? ⟨b, o, none⟩ = some (.int .u64 (c.gen : Int)) ∧ w.cell? ⟨b, o + 1, none⟩ = some (.int .u64 (c.number : Int)) ∧ w.cell? ⟨b, o + 2, none⟩ = some (.int .i64 (c.part : Int)) ∧ w.cell? ⟨b, o + 3, none⟩ = some (.int .i64 (c.parts : Int)) ∧ w.cell? ⟨b, o + 4, none⟩ = some (.string (Mt.str c.body))
theorem CellAt.below {w u : World} {b o : Nat} {c : Mt.Cl} (h : CellAt w b o c) (hb : b < w.heap.size) (hu : Below w.heap.size w u) : CellAt u b o c :=
  ⟨(hu.cell (p := ⟨b, o, none⟩) hb).trans h.1, (hu.cell (p := ⟨b, o + 1, none⟩) hb).trans h.2.1, (hu.cell (p := ⟨b, o + 2, none⟩) hb).trans h.2.2.1, (hu.cell (p := ⟨b, o + 3, none⟩) hb).trans h.2.2.2.1, (hu.cell (p := ⟨b, o + 4, none⟩) hb).trans h.2.2.2.2⟩
/-- Cells in a slice. -/
def IsCls (w : World) (v : Value) (ls : List Mt.Cl) : Prop :=
  ∃ a cap, v = .slice a ls.length cap ∧ ls.length ≤ cap ∧ (ls = [] ∨ ∃ b off, a = some ⟨b, off, none⟩ ∧ b < w.heap.size ∧ ∀ j (hj : j < ls.length), CellAt w b (off + j * 5) ls[j])
theorem IsCls.below {w u : World} {v : Value} {ls : List Mt.Cl} (h : IsCls w v ls) (hb : Below w.heap.size w u) : IsCls u v ls := by
  obtain ⟨a, cap, h1, h2, h4⟩ := h
  refine ⟨a, cap, h1, h2, ?_⟩
  rcases h4 with h4 | ⟨b, off, h5, h6, h7⟩
  · exact .inl h4
  · exact .inr ⟨b, off, h5, Nat.lt_of_lt_of_le h6 hb.size, fun i hi => (h7 i hi).below h6 hb⟩
theorem Mt.greatest_snoc (l : List Mt.Cl) (c : Mt.Cl) (a b : Nat) : Mt.greatest (l ++ [c]) a b = max (Mt.greatest l a b) c.gen := by simp [Mt.greatest]
theorem Mt.greatest_lt (l : List Mt.Cl) (a b : Nat) (hl : ∀ c ∈ l, c.gen < 4294967296) (ha : a < 4294967296) (hb : b < 4294967296) : Mt.greatest l a b < 4294967296 := by
  unfold Mt.greatest
  have : ∀ (l : List Mt.Cl) (m : Nat), m < 4294967296 → (∀ c ∈ l, c.gen < 4294967296) → l.foldl (fun m c => max m c.gen) m < 4294967296 := by
    intro l
    induction l with
    | nil => intro m hm _; exact hm
    | cons c r ih =>
      intro m hm h
      have := h c (List.mem_cons_self ..)
      exact ih _ (by show max m c.gen < _; omega) (fun x hx => h x (List.mem_cons_of_mem _ hx))
  exact this l _ (by omega) hl
theorem Mt.max_cast (a b : Nat) : ((max a b : Nat) : Int) = max (a : Int) (b : Int) := by omega
section
variable {w u : World}
set_option maxRecDepth 100000 in
theorem greatest_any {v : Value} {ls : List Mt.Cl} (hv : IsCls w v ls) (hn : ls.length ≤ 9223372036854775807) (a b : Nat) :
    Calls Tryz.prog 65 #[v, .int .u64 (a : Int), .int .u64 (b : Int)] w fun e w' => e = .returned (.int .u64 (Mt.greatest ls a b : Int)) ∧ Below w.heap.size w w' := by
  have HV := Lib.hid (fun u (hb : Below w.heap.size w u) => hv.below hb)
  have HG0 := Lib.hid (show Mt.greatest (ls.take 0) a b = max a b by simp [Mt.greatest])
  have HGF := Lib.hid (show Mt.greatest (ls.take ls.length) a b = Mt.greatest ls a b by rw [List.take_length])
  have HGS := Lib.hid (fun k (hk : k < ls.length) => show Mt.greatest (ls.take (k + 1)) a b = max (Mt.greatest (ls.take k) a b) ls[k].gen by rw [List.take_succ_eq_append_getElem hk, Mt.greatest_snoc])
  obtain ⟨ad, cap, rfl, hc, h4⟩ := hv
  have HX : Hid (∀ k (hk : k < ls.length) u, Below w.heap.size w u → ∃ blk off, ad = some ⟨blk, off, none⟩ ∧ CellAt u blk (off + k * 5) ls[k]) := Lib.hid (fun k hk u hb => by
    rcases h4 with h4 | ⟨b, off, h5, h6, h7⟩
    · subst h4; simp at hk
    · exact ⟨b, off, h5, (h7 k hk).below h6 hb⟩)
  clear h4 hc
  generalize hgl : Mt.greatest ls a b = R at *
  clear hgl
  obtain ⟨n, hnn⟩ : ∃ n, ls.length = n := ⟨_, rfl⟩
  have HN := Lib.hid hnn
  rw [hnn] at hn HV HGF ⊢
  clear hnn
  have HB0 := Lib.hid (Below.refl w.heap.size w)
  skip
  all_goals
    go_enter Tryz.func65, Tryz.ntmps65
    go_wp2_with fail
    go_loopw [7, 9, 15] (fun m _ i wr => ∃ k : Nat, k ≤ n ∧ i = .int .i64 k ∧ m = .int .u64 (Mt.greatest (ls.take k) a b : Int) ∧ Hid (Below w.heap.size w wr)) (fun _ _ i _ => n - (intOf i).toNat)
    case atStart => exact ⟨0, Nat.zero_le _, rfl, by rw [HG0.out, Mt.max_cast], HB0⟩
    case round =>
      obtain ⟨k, hk, rfl, rfl, HB⟩ := hrel
      by_cases hlt : k < n
      · have hkl : k < ls.length := by rw [HN.out]; exact hlt
        obtain ⟨blk, off, rfl, hca⟩ := HX.out k hkl _ HB.out
        obtain ⟨k0, k1, k2, k3, k4⟩ := hca
        have HS := Lib.hid (HGS.out k hkl)
        go_wp2_with fail
        go_roundw
        case rel => exact ⟨k + 1, by omega, by go_num, by rw [HS.out, Mt.max_cast], Lib.hid (HB.out.alloc HB.out.size _)⟩
        case measure => simp [intOf]; omega
      · obtain rfl : k = n := by omega
        go_wp2_with fail
        go_ret
        exact ⟨Mt.ret_int (by rw [HGF.out]), HB.out⟩
end
end Go.Proofs.YtnioagojiipjlaaGreat

/-
  What record comes to: the record with which cells begin.
-/
namespace Go.Proofs.YtnioagojiipjlaaGreat
open Go.RowKit

theorem ws_any (D b : Nat) (l : List UInt8) (s : ByteArray) (w : World) (h : Lib.IsBuilderF 136 5 D b (Lib.byteCells l) w) (hlen : l.length + s.size ≤ 140737488355328) (hD : D ≤ w.heap.size) :
    Calls Tryz.prog 96 #[.pointer (some ⟨b, 0, none⟩), .string s] w fun e w' => e = .returned (.tuple #[.int .i64 s.size, .nilIface]) ∧ Lib.IsBuilderF 136 5 D b (Lib.byteCells (l ++ s.data.toList)) w' ∧ Below D w w' :=
  (Any.Builder_WriteString_f { Tryz.repA with } Tryz.repX D b (Lib.byteCells l) s w h (by rw [Lib.byteCells_length]; exact hlen) hD).mono fun e w' ⟨h1, h2, h3⟩ => ⟨h1, .inr (by rw [Lib.byteCells_append]; exact h2), h3⟩
theorem bstr_any (D b : Nat) (l : List UInt8) (w : World) (h : Lib.IsBuilderF 136 5 D b (Lib.byteCells l) w) (hD : D ≤ w.heap.size) :
    Calls Tryz.prog 97 #[.pointer (some ⟨b, 0, none⟩)] w fun e w' => e = .returned (.string (Mt.str l)) ∧ Below D w w' :=
  (Any.Builder_String_any_f { Tryz.repA with } Tryz.repX D b l w h hD).mono fun e w' ⟨h1, _, h3⟩ => ⟨h1, h3⟩
theorem builder_new (D : Nat) (w : World) (hD : D ≤ w.heap.size) : Lib.IsBuilderF 136 5 D w.heap.size (Lib.byteCells []) (w.alloc (.cells #[.pointer none, .slice none 0 0] 136)) :=
  .inl ⟨hD, .slice none 0 0, heap_alloc_new w _, ⟨rfl, .inl ⟨rfl, rfl⟩⟩, by simp [Value.ownBlock]⟩

theorem Mt.bodyOf_snoc (l : List Mt.Cl) (k : Nat) (h : k < l.length) : Mt.bodyOf l (k + 1) = Mt.bodyOf l k ++ l[k].body := by
  unfold Mt.bodyOf
  rw [List.take_succ_eq_append_getElem h, List.map_append, List.flatten_append]
  simp only [List.map_cons, List.map_nil, List.flatten_cons, List.flatten_nil, List.append_nil]
theorem Mt.bodyOf_le (l : List Mt.Cl) (h : ∀ c ∈ l, c.body.length ≤ 110) : ∀ k, (Mt.bodyOf l k).length ≤ 110 * k := by
  intro k
  induction k with
  | zero => simp [Mt.bodyOf]
  | succ k ih =>
    by_cases hk : k < l.length
    · rw [Mt.bodyOf_snoc l k hk, List.length_append]
      have := h _ (List.getElem_mem hk)
      omega
    · have e : Mt.bodyOf l (k + 1) = Mt.bodyOf l k := by unfold Mt.bodyOf; rw [List.take_of_length_le (by omega), List.take_of_length_le (by omega)]
      rw [e]; omega
/-- Does the k-th cell fit? -/
def Mt.fitC (c : Mt.Cl) (gen number parts i : Nat) : Prop := c.gen = gen ∧ c.number = number ∧ c.parts = parts ∧ c.part = i
theorem Mt.record_bad {l : List Mt.Cl} {gen number k : Nat} (h : k < l.length) (hp : k < (l.getD 0 Mt.Cl.zero).parts) (hc : ¬ Mt.fitC l[k] gen number (l.getD 0 Mt.Cl.zero).parts k) : Mt.record l gen number = ([], 0) := by
  unfold Mt.record
  split
  · rfl
  · rw [if_neg]
    intro hr
    unfold Mt.recOk at hr
    rw [List.all_eq_true] at hr
    have := hr k (List.mem_range.2 hp)
    simp only [List.getD_eq_getElem?_getD, List.getElem?_eq_getElem h, Option.getD_some, Bool.and_eq_true, decide_eq_true_eq] at this
    rw [← List.getD_eq_getElem?_getD] at this
    exact hc ⟨this.1.1.1, this.1.1.2, this.1.2, this.2⟩
theorem Mt.record_good {l : List Mt.Cl} {gen number : Nat} (h : (l.getD 0 Mt.Cl.zero).parts ≤ l.length) (hc : ∀ k (hk : k < l.length), k < (l.getD 0 Mt.Cl.zero).parts → Mt.fitC l[k] gen number (l.getD 0 Mt.Cl.zero).parts k) : Mt.record l gen number = (Mt.bodyOf l (l.getD 0 Mt.Cl.zero).parts, (l.getD 0 Mt.Cl.zero).parts) := by
  unfold Mt.record
  rw [if_neg (by omega), if_pos]
  unfold Mt.recOk
  rw [List.all_eq_true]
  intro k hk
  rw [List.mem_range] at hk
  obtain ⟨a, b, c, d⟩ := hc k (by omega) hk
  simp only [List.getD_eq_getElem?_getD, List.getElem?_eq_getElem (show k < l.length by omega), Option.getD_some, Bool.and_eq_true, decide_eq_true_eq]
  rw [← List.getD_eq_getElem?_getD]
  exact ⟨⟨⟨a, b⟩, c⟩, d⟩
theorem Mt.record_far {l : List Mt.Cl} {gen number : Nat} (h : l.length < (l.getD 0 Mt.Cl.zero).parts) : Mt.record l gen number = ([], 0) := by
  unfold Mt.record
  rw [if_pos h]
section
variable {w u : World}
set_option maxRecDepth 100000 in
set_option maxHeartbeats 1000000 in
theorem record_any {v : Value} {ls : List Mt.Cl} (hv : IsCls w v ls) (h0 : 0 < ls.length) (hn : ls.length ≤ 8192) (hb : ∀ c ∈ ls, c.body.length ≤ 110) (gen number : Nat) :
    Calls Tryz.prog 86 #[v, .int .u64 (gen : Int), .int .u64 (number : Int)] w fun e w' => e = .returned (.tuple #[.string (Mt.str (Mt.record ls gen number).1), .int .i64 ((Mt.record ls gen number).2 : Int)]) ∧ Below w.heap.size w w' := by
  obtain ⟨ad, cap, rfl, hc, h4⟩ := hv
  have HX : Hid (∀ k (hk : k < ls.length) u, Below w.heap.size w u → ∃ blk off, ad = some ⟨blk, off, none⟩ ∧ CellAt u blk (off + k * 5) ls[k]) := Lib.hid (fun k hk u hb => by
    rcases h4 with h4 | ⟨b, off, h5, h6, h7⟩
    · subst h4; simp at hk
    · exact ⟨b, off, h5, (h7 k hk).below h6 hb⟩)
  clear h4
  obtain ⟨P, hP⟩ : ∃ P, (ls.getD 0 Mt.Cl.zero).parts = P := ⟨_, rfl⟩
  have hP0 : ls[0].parts = P := by rw [← hP]; simp [List.getD_eq_getElem?_getD, List.getElem?_eq_getElem h0]
  have HFAR := Lib.hid (show ls.length < P → Mt.record ls gen number = ([], 0) by rw [← hP]; exact Mt.record_far)
  have HBAD := Lib.hid (show ∀ k (hk : k < ls.length), k < P → ¬ Mt.fitC ls[k] gen number P k → Mt.record ls gen number = ([], 0) by rw [← hP]; exact fun k hk h1 h2 => Mt.record_bad hk h1 h2)
  have HGOOD := Lib.hid (show P ≤ ls.length → (∀ k (hk : k < ls.length), k < P → Mt.fitC ls[k] gen number P k) → Mt.record ls gen number = (Mt.bodyOf ls P, P) by rw [← hP]; exact Mt.record_good)
  have HBS := Lib.hid (fun k hk => Mt.bodyOf_snoc ls k hk)
  have HBL := Lib.hid (Mt.bodyOf_le ls hb)
  have HBB := Lib.hid (fun k (hk : k < ls.length) => hb _ (List.getElem_mem hk))
  obtain ⟨blk, off, rfl, hca⟩ := HX.out 0 h0 w (Below.refl _ _)
  have k3 : w.cell? ⟨blk, off + 3, none⟩ = some (.int .i64 (P : Int)) := by have := hca.2.2.2.1; rw [hP0, Nat.zero_mul, Nat.add_zero] at this; exact this
  generalize hR : Mt.record ls gen number = R at *
  clear hR hca hP hP0 hb
  obtain ⟨n, hnn⟩ : ∃ n, ls.length = n := ⟨_, rfl⟩
  have HN := Lib.hid hnn
  rw [hnn] at hn h0 hc HFAR ⊢
  clear hnn
  by_cases hfar : n < P
  · have hd : decide (n < P) = true := decide_eq_true hfar
    have hd2 : decide ((n : Int) < (P : Int)) = true := decide_eq_true (by omega)
    have HF := Lib.hid (HFAR.out hfar)
    clear hfar
    go_enter Tryz.func86, Tryz.ntmps86
    go_wp2_with fail
    go_ret2
    rw [HF.out]
    exact ⟨rfl, Below.refl _ _⟩
  · have hd : decide (n < P) = false := decide_eq_false hfar
    have hd2 : decide ((n : Int) < (P : Int)) = false := decide_eq_false (by omega)
    have hPn : P ≤ n := by omega
    have hPn2 : (P : Int) ≤ (n : Int) := by omega
    have hPc : (P : Int) ≤ (cap : Int) := by omega
    have hPc2 : P ≤ cap := by omega
    have HB1 := Lib.hid ((Below.refl w.heap.size w).alloc (Nat.le_refl _) (.cells #[.pointer none, .slice none 0 0] 136))
    have HBN := Lib.hid (builder_new w.heap.size w (Nat.le_refl _))
    clear hfar
    go_enter Tryz.func86, Tryz.ntmps86
    go_wp2_with fail
    go_loopw [6, 7, 10, 11, 24] (fun _ _ _ _ i wr => ∃ k : Nat, k ≤ P ∧ i = .int .i64 k ∧ Hid (Below w.heap.size w wr) ∧ Hid (Lib.IsBuilderF 136 5 w.heap.size w.heap.size (Lib.byteCells (Mt.bodyOf ls k)) wr) ∧ Hid (∀ m (hm : m < ls.length), m < k → Mt.fitC ls[m] gen number P m)) (fun _ _ _ _ i _ => P - (intOf i).toNat)
    case atStart => exact ⟨0, Nat.zero_le _, rfl, HB1, HBN, Lib.hid fun m _ h => by omega⟩
    case round =>
      obtain ⟨k, hk, rfl, HB, HBU, HFIT⟩ := hrel
      by_cases hlt : k < P
      · have hkl : k < ls.length := by rw [HN.out]; omega
        obtain ⟨blk2, off2, he, hca⟩ := HX.out k hkl _ HB.out
        obtain ⟨rfl, rfl⟩ : blk = blk2 ∧ off = off2 := by cases he; exact ⟨rfl, rfl⟩
        obtain ⟨q0, q1, q2, q3, q4⟩ := hca
        have HBK := Lib.hid (HBAD.out k hkl hlt)
        have HSN := Lib.hid (HBS.out k hkl)
        have hbb := HBB.out k hkl
        have HFX := Lib.hid (show ∀ m (hm : m < ls.length), m < k + 1 → Mt.fitC ls[k] gen number P k → Mt.fitC ls[m] gen number P m from fun m hm h1 h2 => by
          by_cases e : m = k
          · subst e; exact h2
          · exact HFIT.out m hm (by omega))
        clear he
        unfold Mt.fitC at HBK HFX
        generalize ls[k] = c at *
        obtain ⟨cg, cn, cp, cq, cb⟩ := c
        simp only at *
        by_cases h1 : cg = gen
        · have g1 : ((cg : Int) == (gen : Int)) = true := by rw [beq_iff_eq]; omega
          have e1 : ((cg : Int) != (gen : Int)) = false := by rw [bne, g1]; rfl
          by_cases h2 : cn = number
          · have g2 : ((cn : Int) == (number : Int)) = true := by rw [beq_iff_eq]; omega
            have e2 : ((cn : Int) != (number : Int)) = false := by rw [bne, g2]; rfl
            by_cases h3 : cq = P
            · have g3 : ((cq : Int) == (P : Int)) = true := by rw [beq_iff_eq]; omega
              have e3 : ((cq : Int) != (P : Int)) = false := by rw [bne, g3]; rfl
              by_cases h4 : cp = k
              · have g4 : ((cp : Int) == (k : Int)) = true := by rw [beq_iff_eq]; omega
                have e4 : ((cp : Int) != (k : Int)) = false := by rw [bne, g4]; rfl
                have HFIT2 := Lib.hid (fun m hm h => HFX.out m hm h ⟨h1, h2, h3, h4⟩)
                have hsz : (Mt.str cb).size = cb.length := Mt.str_size cb
                have hbl := HBL.out k
                have HWS := Lib.hid (fun u (hu : Lib.IsBuilderF 136 5 w.heap.size w.heap.size (Lib.byteCells (Mt.bodyOf ls k)) u) (hD : w.heap.size ≤ u.heap.size) => ws_any w.heap.size w.heap.size (Mt.bodyOf ls k) (Mt.str cb) u hu (by rw [hsz]; omega) hD)
                clear h1 h2 h3 h4 hsz hbl hbb
                go_wp2_with fail
                refine (HWS.out _ (HBU.out.alloc _) (by simp; exact Nat.le_succ_of_le HB.out.size)).mono ?_
                rintro e w2 ⟨rfl, hbu, hb2⟩
                rw [Mt.str_data, ← HSN.out] at hbu
                have HBU2 := Lib.hid hbu
                have HB2 := Lib.hid ((HB.out.alloc HB.out.size _).trans hb2)
                clear hbu hb2
                go_wp2_with fail
                go_roundw
                case rel => exact ⟨k + 1, by omega, by go_num, HB2, HBU2, HFIT2⟩
                case measure => simp [intOf]; omega
              · have g4 : ((cp : Int) == (k : Int)) = false := by rw [beq_eq_false_iff_ne]; omega
                have e4 : ((cp : Int) != (k : Int)) = true := by rw [bne, g4]; rfl
                have HF := Lib.hid (HBK.out (fun h => h4 h.2.2.2))
                clear h4
                go_wp2_with fail
                go_ret2
                rw [HF.out]
                exact ⟨rfl, HB.out.alloc HB.out.size _⟩
            · have g3 : ((cq : Int) == (P : Int)) = false := by rw [beq_eq_false_iff_ne]; omega
              have e3 : ((cq : Int) != (P : Int)) = true := by rw [bne, g3]; rfl
              have HF := Lib.hid (HBK.out (fun h => h3 h.2.2.1))
              clear h3
              go_wp2_with fail
              go_ret2
              rw [HF.out]
              exact ⟨rfl, HB.out.alloc HB.out.size _⟩
          · have g2 : ((cn : Int) == (number : Int)) = false := by rw [beq_eq_false_iff_ne]; omega
            have e2 : ((cn : Int) != (number : Int)) = true := by rw [bne, g2]; rfl
            have HF := Lib.hid (HBK.out (fun h => h2 h.2.1))
            clear h2
            go_wp2_with fail
            go_ret2
            rw [HF.out]
            exact ⟨rfl, HB.out.alloc HB.out.size _⟩
        · have g1 : ((cg : Int) == (gen : Int)) = false := by rw [beq_eq_false_iff_ne]; omega
          have e1 : ((cg : Int) != (gen : Int)) = true := by rw [bne, g1]; rfl
          have HF := Lib.hid (HBK.out (fun h => h1 h.1))
          clear h1
          go_wp2_with fail
          go_ret2
          rw [HF.out]
          exact ⟨rfl, HB.out.alloc HB.out.size _⟩
      · obtain rfl : k = P := by omega
        have HG2 := Lib.hid (HGOOD.out (by rw [HN.out]; exact hPn) (fun m hm h => HFIT.out m hm h))
        have HST := Lib.hid (bstr_any w.heap.size w.heap.size (Mt.bodyOf ls k) wr HBU.out HB.out.size)
        go_wp2_with fail
        refine (HST.out).mono ?_
        rintro e w2 ⟨rfl, hb2⟩
        have HB2 := Lib.hid (HB.out.trans hb2)
        clear hb2
        go_wp2_with fail
        go_ret2
        rw [HG2.out]
        exact ⟨rfl, HB2.out⟩
end
end Go.Proofs.YtnioagojiipjlaaGreat

/-
  Bytes in a slice, wherever in its block it begins; what append does to them.
-/
namespace Go.Proofs.YtnioagojiipjlaaGreat
open Go.RowKit

/-- Bytes in a slice. -/
def IsByt (w : World) (g : Nat) (v : Value) (l : List UInt8) : Prop :=
  (l = [] ∧ v = .slice none 0 0) ∨ ∃ off cap cur, v = .slice (some ⟨g, off, none⟩) l.length cap ∧ w.heap[g]? = some (.cells cur 5 (0, 0)) ∧ l.length ≤ cap ∧ off + cap ≤ cur.size ∧ ∀ j (hj : j < l.length), cur[off + j]? = some (.int .u8 (l[j].toNat : Int))

theorem IsByt.kept {w u : World} {g : Nat} {v : Value} {l : List UInt8} (h : IsByt w g v l) (hg : u.heap[g]? = w.heap[g]?) : IsByt u g v l := by
  rcases h with h | ⟨off, cap, cur, h1, h2, h3⟩
  · exact .inl h
  · exact .inr ⟨off, cap, cur, h1, hg.trans h2, h3⟩

section
variable {P : Program}
theorem run_append_room_row (w : World) (t tx ty e : TypeId) (i : TypeInfo) (ht : P.underlying t = some (.slice e)) (hi : P.info? e = some i) (hsz : i.size = 1) (g off sLen sCap : Nat) (x : Value) (n : Nat) (news : List Value) (hs : Src P i.size tx x n news w)
    (hroom : sLen + n ≤ sCap) (cur : Array Value) (t' : TypeId) (hg : w.heap[g]? = some (.cells cur t' (0, 0))) (hfit : off + sCap ≤ cur.size) :
    (Builtin.append_ #[t, tx] ty #[.slice (some ⟨g, off, none⟩) sLen sCap, x]).run P w = .ok (.slice (some ⟨g, off, none⟩) (sLen + n) sCap)
      (w.setRow g (cur.toList.take (off + sLen) ++ news ++ cur.toList.drop (off + sLen + n)).toArray) := by
  have hnl : news.length = n := by have := hs.newsLen; rw [hsz] at this; omega
  have hst := run_storeCells_at P g (off + sLen) t' news 0 cur w hg (by simp [hnl]; omega) hs.one
  rw [hnl] at hst
  simp only [Nat.add_zero] at hst
  have hcs := hs.cells
  rw [hsz] at hcs
  rcases hs.kind with ⟨e', hk⟩ | hk <;> simp [Builtin.append_, run_underlying ht, run_underlying hk, sizeOf, typeInfo, hi, hs.len, hroom, hcs, Addr.add_lit, hsz, hst]
end

theorem Mt.cs_get (L : List UInt8) (k : Nat) (h : k < L.length) : (Mt.cs L)[k]? = some (.int .u8 (L[k].toNat : Int)) := by
  simp [Mt.cs, List.getElem?_eq_getElem h]
theorem Mt.cs_eq (s : ByteArray) : byteCells s = Mt.cs s.data.toList := rfl

/-- What append of a text onto bytes comes to. -/
theorem byt_append {w : World} {g : Nat} {v : Value} {l : List UInt8} (h : IsByt w g v l) (s : ByteArray) (hsz : l.length + s.size ≤ 70368744177664) :
    ∃ v' w' g', (∀ ty, (Builtin.append_ #[73, 9] ty #[v, .string s]).run Tryz.prog w = .ok v' w') ∧ IsByt w' g' v' (l ++ s.data.toList) ∧ (g' = g ∨ g' = w.heap.size) ∧ OnlyS [g] w w' := by
  obtain ⟨i0, hi, hz0, hz1, hz2⟩ := info_parts Tryz.infoU8
  have hsl : s.data.toList.length = s.size := rfl
  by_cases h0 : s.size = 0
  · have hs0 : s.data.toList = [] := List.eq_nil_of_length_eq_zero (by omega)
    have src : ∀ u : World, Src Tryz.prog i0.size 9 (.string s) 0 [] u := fun u => by
      have := Src.ofString (P := Tryz.prog) u Tryz.underlying9 s
      rw [Mt.cs_eq, hs0, h0, ← hz1] at this
      exact this
    rcases h with ⟨rfl, rfl⟩ | ⟨off, cap, cur, rfl, h2, h3, h4, h5⟩
    · refine ⟨_, w, g, fun ty => run_append_nothing w 73 9 ty 5 i0 Tryz.underlying73 hi none 0 0 (Nat.le_refl _) _ (src w), .inl ⟨by simp [hs0], rfl⟩, .inl rfl, OnlyS.refl _ _⟩
    · refine ⟨_, w, g, fun ty => run_append_nothing w 73 9 ty 5 i0 Tryz.underlying73 hi _ _ _ h3 _ (src w), .inr ⟨off, cap, cur, by simp [hs0], h2, by simpa [hs0] using h3, h4, ?_⟩, .inl rfl, OnlyS.refl _ _⟩
      simpa [hs0] using h5
  · have src : ∀ u : World, Src Tryz.prog i0.size 9 (.string s) s.size (Mt.cs s.data.toList) u := fun u => by
      have := Src.ofString (P := Tryz.prog) u Tryz.underlying9 s
      rw [Mt.cs_eq, ← hz1] at this
      exact this
    by_cases hroom : ∃ off cap cur, v = .slice (some ⟨g, off, none⟩) l.length cap ∧ w.heap[g]? = some (.cells cur 5 (0, 0)) ∧ l.length + s.size ≤ cap ∧ off + cap ≤ cur.size ∧ ∀ j (hj : j < l.length), cur[off + j]? = some (.int .u8 (l[j].toNat : Int))
    · obtain ⟨off, cap, cur, rfl, h2, h3, h4, h5⟩ := hroom
      refine ⟨_, _, g, fun ty => run_append_room_row w 73 9 ty 5 i0 Tryz.underlying73 hi hz1 g off l.length cap _ s.size _ (src w) h3 cur 5 h2 h4, ?_, .inl rfl, (OnlyS.refl _ _).setRow (by simp) _⟩
      refine .inr ⟨off, cap, _, by rw [List.length_append, hsl], setRow_heap _ _ cur _ 5 (0, 0) h2, by rw [List.length_append, hsl]; exact h3, ?_, ?_⟩
      · rw [List.size_toArray, List.length_append, List.length_append, List.length_take, List.length_drop, Mt.cs_length, hsl, Array.length_toList (xs := cur)]; omega
      · intro j hj
        have ht : (cur.toList.take (off + l.length)).length = off + l.length := by rw [List.length_take, Array.length_toList (xs := cur)]; omega
        rw [List.getElem?_toArray, List.append_assoc]
        by_cases hjl : j < l.length
        · rw [List.getElem?_append_left (by rw [ht]; omega), List.getElem?_take, if_pos (by omega), Array.getElem?_toList, h5 j hjl]
          simp [List.getElem_append_left hjl]
        · rw [List.getElem?_append_right (by rw [ht]; omega), ht]
          have hj2 : off + j - (off + l.length) < s.data.toList.length := by rw [List.length_append] at hj; omega
          rw [List.getElem?_append_left (by rw [Mt.cs_length]; exact hj2)]
          have e : off + j - (off + l.length) = j - l.length := by omega
          rw [Mt.cs_get _ _ hj2, List.getElem_append_right (by omega)]
          simp only [e]
    · -- no room: a new block
      have hgrow : ∀ (base : Option Addr) (cap : Nat) (olds : List Value), (Builtin.firstCells i0.size l.length (.slice base l.length cap)).run Tryz.prog w.drew = .ok olds.toArray w.drew → olds = Mt.cs l → cap < l.length + s.size →
          ∃ v' w' g', (∀ ty, (Builtin.append_ #[73, 9] ty #[.slice base l.length cap, .string s]).run Tryz.prog w = .ok v' w') ∧ IsByt w' g' v' (l ++ s.data.toList) ∧ (g' = g ∨ g' = w.heap.size) ∧ OnlyS [g] w w' := by
        intro base cap olds hold holds hcap
        have hcc := grownCap_ge w (l.length + s.size) cap 5
        refine ⟨_, _, w.heap.size, fun ty => run_append_grow_src w 73 9 ty 5 i0 (.int .u8 0) Tryz.underlying73 hi hz0 base l.length cap olds hold _ s.size _ (src w) hcap (by omega) (growslice_fits hcap (by rw [hz2]; omega)), ?_, .inr rfl, (OnlyS.refl _ _).drew.alloc _⟩
        subst holds
        refine .inr ⟨0, _, _, by rw [List.length_append, hsl], heap_alloc_new _ _, by rw [List.length_append, hsl]; exact hcc, ?_, ?_⟩
        · rw [Array.size_append, size_zeroCells, List.size_toArray, List.length_append, Mt.cs_length, Mt.cs_length, hsl]; simp [Value.cells]; omega
        · intro j hj
          rw [Nat.zero_add, Array.getElem?_append_left (by simp [Mt.cs_length]; rw [List.length_append] at hj; omega)]
          rw [← Mt.cs_append, List.getElem?_toArray]
          exact Mt.cs_get _ _ hj
      rcases h with ⟨rfl, rfl⟩ | ⟨off, cap, cur, rfl, h2, h3, h4, h5⟩
      · exact hgrow none 0 [] (run_firstCells_none w.drew i0.size 0 0 0) rfl (by simp; omega)
      · refine hgrow _ cap (Mt.cs l) (run_firstCells_some w.drew i0.size l.length ⟨g, off, none⟩ l.length cap (Mt.cs l) (by rw [Mt.cs_length, hz1, Nat.mul_one]) ?_) rfl ?_
        · intro j u hu
          obtain ⟨hj, rfl⟩ := Mt.cs_getD l j u hu
          rw [add_off]
          have := h5 j hj
          rw [World.cell?_drew]
          rw [cell_of_row w g _ cur 5 (0, 0) h2, this]
          simp [List.getD, List.getElem?_eq_getElem hj]
        · exact Nat.lt_of_not_le fun hle => hroom ⟨off, cap, cur, rfl, h2, hle, h4, h5⟩
theorem wpList_append_run {P : Program} {ops : Array Oper} {rest : List Oper} {o : Oper} {a : Act} {w : World} {Q : Exit → Act → World → Prop} (hgd : o.guard = none) (d s : Operand) (t t' : TypeId)
    (ho : o.op = .call { callee := .builtin .append, args := #[d, s], argTypes := #[t, t'] }) (v u : Value) (hd : a.eval d = v) (hs : a.eval s = u) {v' : Value} {w' : World}
    (hr : ∀ ty, (Builtin.append_ #[t, t'] ty #[v, u]).run P w = .ok v' w') (h : wpList P ops Q rest (a.put o.dst v') w') : wpList P ops Q (o :: rest) a w :=
  wpList_plain hgd fun _ hK => by
    unfold Oper.wp execOp
    simp only [ho, resolve, invoke, builtin, Sem.run_bind, Sem.run_pure, Result.andThen_ok, List.map_toArray, List.map_cons, List.map_nil, hd, hs, hr]
    exact hK _ _ h
theorem byt_text {w : World} {g off n cap : Nat} {l : List UInt8} {cur : Array Value} (hg : w.heap[g]? = some (.cells cur 5 (0, 0))) (hc : ∀ j (hj : j < l.length), cur[off + j]? = some (.int .u8 (l[j].toNat : Int))) (hn : n ≤ l.length) :
    (convert 73 9 (.slice (some ⟨g, off, none⟩) n cap)).run Tryz.prog w = .ok (.string (Mt.str (l.take n))) w := by
  have h := run_convert_bytes_arg (P := Tryz.prog) w 73 5 Tryz.underlying73 Tryz.underlying5 g off n cap ((l.take n).map fun c => (c.toNat : Int)) (by simp; omega) (fun i hi => by
    rw [cell_of_row w g _ cur 5 (0, 0) hg, hc i (by omega)]
    simp [List.getD, List.getElem?_map, List.getElem?_take, hi, List.getElem?_eq_getElem (show i < l.length by omega)]) 9 Tryz.underlying9
  rw [Mt.str_nums] at h
  exact h
end Go.Proofs.YtnioagojiipjlaaGreat
