/-
  Some texts of one proof, one behind the other.
-/
import Derived.Lib.OthersKept
import Derived.Test.YtnioagojiipjlaaGreatPk26
set_option linter.unusedVariables false
set_option linter.unusedSimpArgs false

/-
  Cells in a slice; what greatest comes to.
-/
namespace Go.Proofs.YtnioagojiipjlaaGreat
open Go.RowKit

/-- A cell lies there. -/
def CellAt (w : World) (b o : Nat) (c : Mt.Cl) : Prop :=
  w.cell? ⟨b, o, none⟩ = some (.int .u64 (c.gen : Int)) ∧ w.cell? ⟨b, o + 1, none⟩ = some (.int .u64 (c.number : Int)) ∧ w.cell? ⟨b, o + 2, none⟩ = some (.int .i64 (c.part : Int)) ∧ w.cell? ⟨b, o + 3, none⟩ = some (.int .i64 (c.parts : Int)) ∧ w.cell? ⟨b, o + 4, none⟩ = some (.string (Mt.str c.body))
theorem CellAt.below {w u : World} {b o : Nat} {c : Mt.Cl} (h : CellAt w b o c) (hb : b < w.heap.size) (hu : Below w.heap.size w u) : CellAt u b o c :=
  ⟨(hu.cell (p := ⟨b, o, none⟩) hb).trans h.1, (hu.cell (p := ⟨b, o + 1, none⟩) hb).trans h.2.1, (hu.cell (p := ⟨b, o + 2, none⟩) hb).trans h.2.2.1, (hu.cell (p := ⟨b, o + 3, none⟩) hb).trans h.2.2.2.1, (hu.cell (p := ⟨b, o + 4, none⟩) hb).trans h.2.2.2.2⟩
/-- Cells in a slice. -/
def IsCls (w : World) (v : Value) (ls : List Mt.Cl) : Prop :=
  ∃ a cap, v = .slice a ls.length cap ∧ ls.length ≤ cap ∧ (ls = [] ∨ ∃ b off, a = some ⟨b, off, none⟩ ∧ b < w.heap.size ∧ ∀ j (hj : j < ls.length), CellAt w b (off + j * 5) ls[j])
theorem IsCls.below {w u : World} {v : Value} {ls : List Mt.Cl} (h : IsCls w v ls) (hb : Below w.heap.size w u) : IsCls u v ls := by
  obtain ⟨a, cap, h1, h2, h4⟩ := h
  refine ⟨a, cap, h1, h2, ?_⟩
  rcases h4 with h4 | ⟨b, off, h5, h6, h7⟩
  · exact .inl h4
  · exact .inr ⟨b, off, h5, Nat.lt_of_lt_of_le h6 hb.size, fun i hi => (h7 i hi).below h6 hb⟩
theorem Mt.greatest_snoc (l : List Mt.Cl) (c : Mt.Cl) (a b : Nat) : Mt.greatest (l ++ [c]) a b = max (Mt.greatest l a b) c.gen := by simp [Mt.greatest]
theorem Mt.greatest_lt (l : List Mt.Cl) (a b : Nat) (hl : ∀ c ∈ l, c.gen < 4294967296) (ha : a < 4294967296) (hb : b < 4294967296) : Mt.greatest l a b < 4294967296 := by
  unfold Mt.greatest
  have : ∀ (l : List Mt.Cl) (m : Nat), m < 4294967296 → (∀ c ∈ l, c.gen < 4294967296) → l.foldl (fun m c => max m c.gen) m < 4294967296 := by
    intro l
    induction l with
    | nil => intro m hm _; exact hm
    | cons c r ih =>
      intro m hm h
      have := h c (List.mem_cons_self ..)
      exact ih _ (by show max m c.gen < _; omega) (fun x hx => h x (List.mem_cons_of_mem _ hx))
  exact this l _ (by omega) hl
theorem Mt.max_cast (a b : Nat) : ((max a b : Nat) : Int) = max (a : Int) (b : Int) := by omega
section
variable {w u : World}
set_option maxRecDepth 100000 in
theorem greatest_any {v : Value} {ls : List Mt.Cl} (hv : IsCls w v ls) (hn : ls.length ≤ 9223372036854775807) (a b : Nat) :
    Calls Tryz.prog 65 #[v, .int .u64 (a : Int), .int .u64 (b : Int)] w fun e w' => e = .returned (.int .u64 (Mt.greatest ls a b : Int)) ∧ Below w.heap.size w w' := by
  have HV := Lib.hid (fun u (hb : Below w.heap.size w u) => hv.below hb)
  have HG0 := Lib.hid (show Mt.greatest (ls.take 0) a b = max a b by simp [Mt.greatest])
  have HGF := Lib.hid (show Mt.greatest (ls.take ls.length) a b = Mt.greatest ls a b by rw [List.take_length])
  have HGS := Lib.hid (fun k (hk : k < ls.length) => show Mt.greatest (ls.take (k + 1)) a b = max (Mt.greatest (ls.take k) a b) ls[k].gen by rw [List.take_succ_eq_append_getElem hk, Mt.greatest_snoc])
  obtain ⟨ad, cap, rfl, hc, h4⟩ := hv
  have HX : Hid (∀ k (hk : k < ls.length) u, Below w.heap.size w u → ∃ blk off, ad = some ⟨blk, off, none⟩ ∧ CellAt u blk (off + k * 5) ls[k]) := Lib.hid (fun k hk u hb => by
    rcases h4 with h4 | ⟨b, off, h5, h6, h7⟩
    · subst h4; simp at hk
    · exact ⟨b, off, h5, (h7 k hk).below h6 hb⟩)
  clear h4 hc
  generalize hgl : Mt.greatest ls a b = R at *
  clear hgl
  obtain ⟨n, hnn⟩ : ∃ n, ls.length = n := ⟨_, rfl⟩
  have HN := Lib.hid hnn
  rw [hnn] at hn HV HGF ⊢
  clear hnn
  have HB0 := Lib.hid (Below.refl w.heap.size w)
  skip
  all_goals
    go_enter Tryz.func65, Tryz.ntmps65
    go_wp2_with fail
    go_loopw [7, 9, 15] (fun m _ i wr => ∃ k : Nat, k ≤ n ∧ i = .int .i64 k ∧ m = .int .u64 (Mt.greatest (ls.take k) a b : Int) ∧ Hid (Below w.heap.size w wr)) (fun _ _ i _ => n - (intOf i).toNat)
    case atStart => exact ⟨0, Nat.zero_le _, rfl, by rw [HG0.out, Mt.max_cast], HB0⟩
    case round =>
      obtain ⟨k, hk, rfl, rfl, HB⟩ := hrel
      by_cases hlt : k < n
      · have hkl : k < ls.length := by rw [HN.out]; exact hlt
        obtain ⟨blk, off, rfl, hca⟩ := HX.out k hkl _ HB.out
        obtain ⟨k0, k1, k2, k3, k4⟩ := hca
        have HS := Lib.hid (HGS.out k hkl)
        go_wp2_with fail
        go_roundw
        case rel => exact ⟨k + 1, by omega, by go_num, by rw [HS.out, Mt.max_cast], Lib.hid (HB.out.alloc HB.out.size _)⟩
        case measure => simp [intOf]; omega
      · obtain rfl : k = n := by omega
        go_wp2_with fail
        go_ret
        exact ⟨Mt.ret_int (by rw [HGF.out]), HB.out⟩
end
end Go.Proofs.YtnioagojiipjlaaGreat

/-
  What record comes to: the record with which cells begin.
-/
namespace Go.Proofs.YtnioagojiipjlaaGreat
open Go.RowKit

theorem ws_any (D b : Nat) (l : List UInt8) (s : ByteArray) (w : World) (h : Lib.IsBuilderF 136 5 D b (Lib.byteCells l) w) (hlen : l.length + s.size ≤ 140737488355328) (hD : D ≤ w.heap.size) :
    Calls Tryz.prog 96 #[.pointer (some ⟨b, 0, none⟩), .string s] w fun e w' => e = .returned (.tuple #[.int .i64 s.size, .nilIface]) ∧ Lib.IsBuilderF 136 5 D b (Lib.byteCells (l ++ s.data.toList)) w' ∧ Below D w w' :=
  (Any.Builder_WriteString_f { Tryz.repA with } Tryz.repX D b (Lib.byteCells l) s w h (by rw [Lib.byteCells_length]; exact hlen) hD).mono fun e w' ⟨h1, h2, h3⟩ => ⟨h1, .inr (by rw [Lib.byteCells_append]; exact h2), h3⟩
theorem bstr_any (D b : Nat) (l : List UInt8) (w : World) (h : Lib.IsBuilderF 136 5 D b (Lib.byteCells l) w) (hD : D ≤ w.heap.size) :
    Calls Tryz.prog 97 #[.pointer (some ⟨b, 0, none⟩)] w fun e w' => e = .returned (.string (Mt.str l)) ∧ Below D w w' :=
  (Any.Builder_String_any_f { Tryz.repA with } Tryz.repX D b l w h hD).mono fun e w' ⟨h1, _, h3⟩ => ⟨h1, h3⟩
theorem builder_new (D : Nat) (w : World) (hD : D ≤ w.heap.size) : Lib.IsBuilderF 136 5 D w.heap.size (Lib.byteCells []) (w.alloc (.cells #[.pointer none, .slice none 0 0] 136)) :=
  .inl ⟨hD, .slice none 0 0, heap_alloc_new w _, ⟨rfl, .inl ⟨rfl, rfl⟩⟩, by simp [Value.ownBlock]⟩

theorem Mt.bodyOf_snoc (l : List Mt.Cl) (k : Nat) (h : k < l.length) : Mt.bodyOf l (k + 1) = Mt.bodyOf l k ++ l[k].body := by
  unfold Mt.bodyOf
  rw [List.take_succ_eq_append_getElem h, List.map_append, List.flatten_append]
  simp only [List.map_cons, List.map_nil, List.flatten_cons, List.flatten_nil, List.append_nil]
theorem Mt.bodyOf_le (l : List Mt.Cl) (h : ∀ c ∈ l, c.body.length ≤ 110) : ∀ k, (Mt.bodyOf l k).length ≤ 110 * k := by
  intro k
  induction k with
  | zero => simp [Mt.bodyOf]
  | succ k ih =>
    by_cases hk : k < l.length
    · rw [Mt.bodyOf_snoc l k hk, List.length_append]
      have := h _ (List.getElem_mem hk)
      omega
    · have e : Mt.bodyOf l (k + 1) = Mt.bodyOf l k := by unfold Mt.bodyOf; rw [List.take_of_length_le (by omega), List.take_of_length_le (by omega)]
      rw [e]; omega
/-- Does the k-th cell fit? -/
def Mt.fitC (c : Mt.Cl) (gen number parts i : Nat) : Prop := c.gen = gen ∧ c.number = number ∧ c.parts = parts ∧ c.part = i
theorem Mt.record_bad {l : List Mt.Cl} {gen number k : Nat} (h : k < l.length) (hp : k < (l.getD 0 Mt.Cl.zero).parts) (hc : ¬ Mt.fitC l[k] gen number (l.getD 0 Mt.Cl.zero).parts k) : Mt.record l gen number = ([], 0) := by
  unfold Mt.record
  split
  · rfl
  · rw [if_neg]
    intro hr
    unfold Mt.recOk at hr
    rw [List.all_eq_true] at hr
    have := hr k (List.mem_range.2 hp)
    simp only [List.getD_eq_getElem?_getD, List.getElem?_eq_getElem h, Option.getD_some, Bool.and_eq_true, decide_eq_true_eq] at this
    rw [← List.getD_eq_getElem?_getD] at this
    exact hc ⟨this.1.1.1, this.1.1.2, this.1.2, this.2⟩
theorem Mt.record_good {l : List Mt.Cl} {gen number : Nat} (h : (l.getD 0 Mt.Cl.zero).parts ≤ l.length) (hc : ∀ k (hk : k < l.length), k < (l.getD 0 Mt.Cl.zero).parts → Mt.fitC l[k] gen number (l.getD 0 Mt.Cl.zero).parts k) : Mt.record l gen number = (Mt.bodyOf l (l.getD 0 Mt.Cl.zero).parts, (l.getD 0 Mt.Cl.zero).parts) := by
  unfold Mt.record
  rw [if_neg (by omega), if_pos]
  unfold Mt.recOk
  rw [List.all_eq_true]
  intro k hk
  rw [List.mem_range] at hk
  obtain ⟨a, b, c, d⟩ := hc k (by omega) hk
  simp only [List.getD_eq_getElem?_getD, List.getElem?_eq_getElem (show k < l.length by omega), Option.getD_some, Bool.and_eq_true, decide_eq_true_eq]
  rw [← List.getD_eq_getElem?_getD]
  exact ⟨⟨⟨a, b⟩, c⟩, d⟩
theorem Mt.record_far {l : List Mt.Cl} {gen number : Nat} (h : l.length < (l.getD 0 Mt.Cl.zero).parts) : Mt.record l gen number = ([], 0) := by
  unfold Mt.record
  rw [if_pos h]
section
variable {w u : World}
set_option maxRecDepth 100000 in
set_option maxHeartbeats 1000000 in
theorem record_any {v : Value} {ls : List Mt.Cl} (hv : IsCls w v ls) (h0 : 0 < ls.length) (hn : ls.length ≤ 8192) (hb : ∀ c ∈ ls, c.body.length ≤ 110) (gen number : Nat) :
    Calls Tryz.prog 86 #[v, .int .u64 (gen : Int), .int .u64 (number : Int)] w fun e w' => e = .returned (.tuple #[.string (Mt.str (Mt.record ls gen number).1), .int .i64 ((Mt.record ls gen number).2 : Int)]) ∧ Below w.heap.size w w' := by
  obtain ⟨ad, cap, rfl, hc, h4⟩ := hv
  have HX : Hid (∀ k (hk : k < ls.length) u, Below w.heap.size w u → ∃ blk off, ad = some ⟨blk, off, none⟩ ∧ CellAt u blk (off + k * 5) ls[k]) := Lib.hid (fun k hk u hb => by
    rcases h4 with h4 | ⟨b, off, h5, h6, h7⟩
    · subst h4; simp at hk
    · exact ⟨b, off, h5, (h7 k hk).below h6 hb⟩)
  clear h4
  obtain ⟨P, hP⟩ : ∃ P, (ls.getD 0 Mt.Cl.zero).parts = P := ⟨_, rfl⟩
  have hP0 : ls[0].parts = P := by rw [← hP]; simp [List.getD_eq_getElem?_getD, List.getElem?_eq_getElem h0]
  have HFAR := Lib.hid (show ls.length < P → Mt.record ls gen number = ([], 0) by rw [← hP]; exact Mt.record_far)
  have HBAD := Lib.hid (show ∀ k (hk : k < ls.length), k < P → ¬ Mt.fitC ls[k] gen number P k → Mt.record ls gen number = ([], 0) by rw [← hP]; exact fun k hk h1 h2 => Mt.record_bad hk h1 h2)
  have HGOOD := Lib.hid (show P ≤ ls.length → (∀ k (hk : k < ls.length), k < P → Mt.fitC ls[k] gen number P k) → Mt.record ls gen number = (Mt.bodyOf ls P, P) by rw [← hP]; exact Mt.record_good)
  have HBS := Lib.hid (fun k hk => Mt.bodyOf_snoc ls k hk)
  have HBL := Lib.hid (Mt.bodyOf_le ls hb)
  have HBB := Lib.hid (fun k (hk : k < ls.length) => hb _ (List.getElem_mem hk))
  obtain ⟨blk, off, rfl, hca⟩ := HX.out 0 h0 w (Below.refl _ _)
  have k3 : w.cell? ⟨blk, off + 3, none⟩ = some (.int .i64 (P : Int)) := by have := hca.2.2.2.1; rw [hP0, Nat.zero_mul, Nat.add_zero] at this; exact this
  generalize hR : Mt.record ls gen number = R at *
  clear hR hca hP hP0 hb
  obtain ⟨n, hnn⟩ : ∃ n, ls.length = n := ⟨_, rfl⟩
  have HN := Lib.hid hnn
  rw [hnn] at hn h0 hc HFAR ⊢
  clear hnn
  by_cases hfar : n < P
  · have hd : decide (n < P) = true := decide_eq_true hfar
    have hd2 : decide ((n : Int) < (P : Int)) = true := decide_eq_true (by omega)
    have HF := Lib.hid (HFAR.out hfar)
    clear hfar
    go_enter Tryz.func86, Tryz.ntmps86
    go_wp2_with fail
    go_ret2
    rw [HF.out]
    exact ⟨rfl, Below.refl _ _⟩
  · have hd : decide (n < P) = false := decide_eq_false hfar
    have hd2 : decide ((n : Int) < (P : Int)) = false := decide_eq_false (by omega)
    have hPn : P ≤ n := by omega
    have hPn2 : (P : Int) ≤ (n : Int) := by omega
    have hPc : (P : Int) ≤ (cap : Int) := by omega
    have hPc2 : P ≤ cap := by omega
    have HB1 := Lib.hid ((Below.refl w.heap.size w).alloc (Nat.le_refl _) (.cells #[.pointer none, .slice none 0 0] 136))
    have HBN := Lib.hid (builder_new w.heap.size w (Nat.le_refl _))
    clear hfar
    go_enter Tryz.func86, Tryz.ntmps86
    go_wp2_with fail
    go_loopw [6, 7, 10, 11, 24] (fun _ _ _ _ i wr => ∃ k : Nat, k ≤ P ∧ i = .int .i64 k ∧ Hid (Below w.heap.size w wr) ∧ Hid (Lib.IsBuilderF 136 5 w.heap.size w.heap.size (Lib.byteCells (Mt.bodyOf ls k)) wr) ∧ Hid (∀ m (hm : m < ls.length), m < k → Mt.fitC ls[m] gen number P m)) (fun _ _ _ _ i _ => P - (intOf i).toNat)
    case atStart => exact ⟨0, Nat.zero_le _, rfl, HB1, HBN, Lib.hid fun m _ h => by omega⟩
    case round =>
      obtain ⟨k, hk, rfl, HB, HBU, HFIT⟩ := hrel
      by_cases hlt : k < P
      · have hkl : k < ls.length := by rw [HN.out]; omega
        obtain ⟨blk2, off2, he, hca⟩ := HX.out k hkl _ HB.out
        obtain ⟨rfl, rfl⟩ : blk = blk2 ∧ off = off2 := by cases he; exact ⟨rfl, rfl⟩
        obtain ⟨q0, q1, q2, q3, q4⟩ := hca
        have HBK := Lib.hid (HBAD.out k hkl hlt)
        have HSN := Lib.hid (HBS.out k hkl)
        have hbb := HBB.out k hkl
        have HFX := Lib.hid (show ∀ m (hm : m < ls.length), m < k + 1 → Mt.fitC ls[k] gen number P k → Mt.fitC ls[m] gen number P m from fun m hm h1 h2 => by
          by_cases e : m = k
          · subst e; exact h2
          · exact HFIT.out m hm (by omega))
        clear he
        unfold Mt.fitC at HBK HFX
        generalize ls[k] = c at *
        obtain ⟨cg, cn, cp, cq, cb⟩ := c
        simp only at *
        by_cases h1 : cg = gen
        · have g1 : ((cg : Int) == (gen : Int)) = true := by rw [beq_iff_eq]; omega
          have e1 : ((cg : Int) != (gen : Int)) = false := by rw [bne, g1]; rfl
          by_cases h2 : cn = number
          · have g2 : ((cn : Int) == (number : Int)) = true := by rw [beq_iff_eq]; omega
            have e2 : ((cn : Int) != (number : Int)) = false := by rw [bne, g2]; rfl
            by_cases h3 : cq = P
            · have g3 : ((cq : Int) == (P : Int)) = true := by rw [beq_iff_eq]; omega
              have e3 : ((cq : Int) != (P : Int)) = false := by rw [bne, g3]; rfl
              by_cases h4 : cp = k
              · have g4 : ((cp : Int) == (k : Int)) = true := by rw [beq_iff_eq]; omega
                have e4 : ((cp : Int) != (k : Int)) = false := by rw [bne, g4]; rfl
                have HFIT2 := Lib.hid (fun m hm h => HFX.out m hm h ⟨h1, h2, h3, h4⟩)
                have hsz : (Mt.str cb).size = cb.length := Mt.str_size cb
                have hbl := HBL.out k
                have HWS := Lib.hid (fun u (hu : Lib.IsBuilderF 136 5 w.heap.size w.heap.size (Lib.byteCells (Mt.bodyOf ls k)) u) (hD : w.heap.size ≤ u.heap.size) => ws_any w.heap.size w.heap.size (Mt.bodyOf ls k) (Mt.str cb) u hu (by rw [hsz]; omega) hD)
                clear h1 h2 h3 h4 hsz hbl hbb
                go_wp2_with fail
                refine (HWS.out _ (HBU.out.alloc _) (by simp; exact Nat.le_succ_of_le HB.out.size)).mono ?_
                rintro e w2 ⟨rfl, hbu, hb2⟩
                rw [Mt.str_data, ← HSN.out] at hbu
                have HBU2 := Lib.hid hbu
                have HB2 := Lib.hid ((HB.out.alloc HB.out.size _).trans hb2)
                clear hbu hb2
                go_wp2_with fail
                go_roundw
                case rel => exact ⟨k + 1, by omega, by go_num, HB2, HBU2, HFIT2⟩
                case measure => simp [intOf]; omega
              · have g4 : ((cp : Int) == (k : Int)) = false := by rw [beq_eq_false_iff_ne]; omega
                have e4 : ((cp : Int) != (k : Int)) = true := by rw [bne, g4]; rfl
                have HF := Lib.hid (HBK.out (fun h => h4 h.2.2.2))
                clear h4
                go_wp2_with fail
                go_ret2
                rw [HF.out]
                exact ⟨rfl, HB.out.alloc HB.out.size _⟩
            · have g3 : ((cq : Int) == (P : Int)) = false := by rw [beq_eq_false_iff_ne]; omega
              have e3 : ((cq : Int) != (P : Int)) = true := by rw [bne, g3]; rfl
              have HF := Lib.hid (HBK.out (fun h => h3 h.2.2.1))
              clear h3
              go_wp2_with fail
              go_ret2
              rw [HF.out]
              exact ⟨rfl, HB.out.alloc HB.out.size _⟩
          · have g2 : ((cn : Int) == (number : Int)) = false := by rw [beq_eq_false_iff_ne]; omega
            have e2 : ((cn : Int) != (number : Int)) = true := by rw [bne, g2]; rfl
            have HF := Lib.hid (HBK.out (fun h => h2 h.2.1))
            clear h2
            go_wp2_with fail
            go_ret2
            rw [HF.out]
            exact ⟨rfl, HB.out.alloc HB.out.size _⟩
        · have g1 : ((cg : Int) == (gen : Int)) = false := by rw [beq_eq_false_iff_ne]; omega
          have e1 : ((cg : Int) != (gen : Int)) = true := by rw [bne, g1]; rfl
          have HF := Lib.hid (HBK.out (fun h => h1 h.1))
          clear h1
          go_wp2_with fail
          go_ret2
          rw [HF.out]
          exact ⟨rfl, HB.out.alloc HB.out.size _⟩
      · obtain rfl : k = P := by omega
        have HG2 := Lib.hid (HGOOD.out (by rw [HN.out]; exact hPn) (fun m hm h => HFIT.out m hm h))
        have HST := Lib.hid (bstr_any w.heap.size w.heap.size (Mt.bodyOf ls k) wr HBU.out HB.out.size)
        go_wp2_with fail
        refine (HST.out).mono ?_
        rintro e w2 ⟨rfl, hb2⟩
        have HB2 := Lib.hid (HB.out.trans hb2)
        clear hb2
        go_wp2_with fail
        go_ret2
        rw [HG2.out]
        exact ⟨rfl, HB2.out⟩
end
end Go.Proofs.YtnioagojiipjlaaGreat
