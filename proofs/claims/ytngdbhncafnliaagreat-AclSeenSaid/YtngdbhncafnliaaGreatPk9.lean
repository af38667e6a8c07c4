/-
  Some texts of one proof, one behind the other.
-/
import Derived.Test.YtngdbhncafnliaaGreatPk4
import Derived.Test.YtngdbhncafnliaaGreatPk8
set_option linter.unusedVariables false
set_option linter.unusedSimpArgs false

/-
  Rules of access in memory; of what one that is read speaks.
-/
namespace Go.Proofs.YtngdbhncafnliaaGreat
open Go.RowKit

/-- Rules in a slice, as they came or read. -/
def IsRus (w : World) (v : Value) (l : List Mt.Ru) : Prop := ∃ a cap, v = .slice a l.length cap ∧ l.length ≤ cap ∧ Hid (∀ j (hj : j < l.length), ∃ b off, a = some ⟨b, off, none⟩ ∧ b < w.heap.size ∧ w.cell? ⟨b, off + j * 6, none⟩ = some (.int .i64 l[j].who) ∧ w.cell? ⟨b, off + j * 6 + 1, none⟩ = some (.string (Mt.str l[j].dn)) ∧ w.cell? ⟨b, off + j * 6 + 2, none⟩ = some (.string (Mt.str l[j].wh)) ∧ w.cell? ⟨b, off + j * 6 + 3, none⟩ = some (.string (Mt.str l[j].att)) ∧ w.cell? ⟨b, off + j * 6 + 4, none⟩ = some (.int .i64 l[j].rights) ∧ w.cell? ⟨b, off + j * 6 + 5, none⟩ = some (.bool l[j].allow))
theorem IsRus.below {w u : World} {v : Value} {l : List Mt.Ru} (h : IsRus w v l) (hb : Below w.heap.size w u) : IsRus u v l := by
  obtain ⟨a, cap, e, hc, h⟩ := h
  refine ⟨a, cap, e, hc, Lib.hid fun j hj => ?_⟩
  obtain ⟨b, off, h0, h1, h2, h3, h4, h5, h6, h7⟩ := h.out j hj
  exact ⟨b, off, h0, Nat.lt_of_lt_of_le h1 hb.size, (hb.cell (p := ⟨b, _, none⟩) h1).trans h2, (hb.cell (p := ⟨b, _, none⟩) h1).trans h3, (hb.cell (p := ⟨b, _, none⟩) h1).trans h4, (hb.cell (p := ⟨b, _, none⟩) h1).trans h5, (hb.cell (p := ⟨b, _, none⟩) h1).trans h6, (hb.cell (p := ⟨b, _, none⟩) h1).trans h7⟩
def ruVs (r : Mt.Ru) : List Value := [.int .i64 r.who, .string (Mt.str r.dn), .string (Mt.str r.wh), .string (Mt.str r.att), .int .i64 r.rights, .bool r.allow]
def ruV (r : Mt.Ru) : Value := .agg #[.int .i64 r.who, .string (Mt.str r.dn), .string (Mt.str r.wh), .string (Mt.str r.att), .int .i64 r.rights, .bool r.allow]
def ruCells (l : List Mt.Ru) : List Value := l.flatMap ruVs
theorem ruCells_get : ∀ (r : List Mt.Ru) (j : Nat) (hj : j < r.length), (ruCells r)[j * 6]? = some (.int .i64 r[j].who) ∧ (ruCells r)[j * 6 + 1]? = some (.string (Mt.str r[j].dn)) ∧ (ruCells r)[j * 6 + 2]? = some (.string (Mt.str r[j].wh)) ∧ (ruCells r)[j * 6 + 3]? = some (.string (Mt.str r[j].att)) ∧ (ruCells r)[j * 6 + 4]? = some (.int .i64 r[j].rights) ∧ (ruCells r)[j * 6 + 5]? = some (.bool r[j].allow)
  | [], j, hj => absurd hj (Nat.not_lt_zero j)
  | x :: r, 0, _ => ⟨rfl, rfl, rfl, rfl, rfl, rfl⟩
  | x :: r, j + 1, hj => by
    obtain ⟨h1, h2, h3, h4, h5, h6⟩ := ruCells_get r j (by simpa using hj)
    have e : ∀ k, (ruCells (x :: r))[(j + 1) * 6 + k]? = (ruCells r)[j * 6 + k]? := fun k => by
      show (ruVs x ++ ruCells r)[(j + 1) * 6 + k]? = _
      rw [List.getElem?_append_right (by show 6 ≤ _; omega)]
      congr 1
      show (j + 1) * 6 + k - 6 = _
      omega
    refine ⟨?_, ?_, ?_, ?_, ?_, ?_⟩
    · exact (e 0).trans h1
    · exact (e 1).trans h2
    · exact (e 2).trans h3
    · exact (e 3).trans h4
    · exact (e 4).trans h5
    · exact (e 5).trans h6
theorem ruCells_len (l : List Mt.Ru) : (ruCells l).length = l.length * 6 := by
  induction l with
  | nil => rfl
  | cons x l ih => show (ruVs x ++ ruCells l).length = _; rw [List.length_append, ih, List.length_cons]; show 6 + _ = _; omega
theorem ruCells_one (l : List Mt.Ru) : ∀ u ∈ ruCells l, u.oneCell' = true := by
  intro u hu
  unfold ruCells at hu
  obtain ⟨r, _, hr⟩ := List.mem_flatMap.1 hu
  unfold ruVs at hr
  simp only [List.mem_cons, List.not_mem_nil, or_false] at hr
  rcases hr with rfl | rfl | rfl | rfl | rfl | rfl <;> rfl
theorem IsOwn.rus {base : Nat} {T : TypeId} {w : World} {v : Value} {r : List Mt.Ru} (h : IsOwn T 6 base w v r.length (ruCells r)) : IsRus w v r := by
  obtain ⟨g, _, hl, h⟩ := h
  rcases h with ⟨h0, rfl⟩ | ⟨off, cap, cur, rfl, h2, h3, h4, h5⟩
  · have : r = [] := List.eq_nil_of_length_eq_zero h0
    subst this
    exact ⟨none, 0, rfl, by simp, Lib.hid fun j hj => absurd hj (by simp)⟩
  · refine ⟨_, cap, rfl, h3, Lib.hid fun j hj => ?_⟩
    obtain ⟨c0, c1, c2, c3, c4, c5⟩ := ruCells_get r j hj
    have hlen := ruCells_len r
    have get : ∀ k, k < 6 → w.cell? ⟨g, off + j * 6 + k, none⟩ = (ruCells r)[j * 6 + k]? := fun k hk => by
      rw [cell_of_row w g _ cur T (0, 0) h2, Nat.add_assoc, h5 (j * 6 + k) (by rw [hlen]; omega), List.getElem?_eq_getElem (by rw [hlen]; omega)]
    exact ⟨g, off, rfl, lt_of_block h2, (get 0 (by omega)).trans c0, (get 1 (by omega)).trans c1, (get 2 (by omega)).trans c2, (get 3 (by omega)).trans c3, (get 4 (by omega)).trans c4, (get 5 (by omega)).trans c5⟩

set_option maxRecDepth 100000 in
theorem isRight_any (k : Int) (w : World) : Calls Tryz.prog 49 #[.int .i64 k] w fun e w' => e = .returned (.bool (Mt.rightB k)) ∧ Below w.heap.size w w' := by
  have hz : Mt.rightB k = (decide (k = 1) || decide (k = 2) || decide (k = 4) || decide (k = 8)) := by
    unfold Mt.rightB; rw [Bool.eq_iff_iff]; simp [or_assoc]
  rw [hz]
  by_cases h1 : k = 1
  · subst h1
    go_enter Tryz.func49, Tryz.ntmps49
    go_wp2_with fail
    all_goals (go_ret; exact ⟨rfl, Below.refl _ _⟩)
  by_cases h2 : k = 2
  · subst h2
    go_enter Tryz.func49, Tryz.ntmps49
    go_wp2_with fail
    all_goals (go_ret; exact ⟨rfl, Below.refl _ _⟩)
  by_cases h4 : k = 4
  · subst h4
    go_enter Tryz.func49, Tryz.ntmps49
    go_wp2_with fail
    all_goals (go_ret; exact ⟨rfl, Below.refl _ _⟩)
  have e1 : decide (k = 1) = false := decide_eq_false h1
  have e2 : decide (k = 2) = false := decide_eq_false h2
  have e4 : decide (k = 4) = false := decide_eq_false h4
  obtain ⟨q, hq⟩ : ∃ q, decide (k = 8) = q := ⟨_, rfl⟩
  have b1 : (k == 1) = false := by simpa using h1
  have b2 : (k == 2) = false := by simpa using h2
  have b4 : (k == 4) = false := by simpa using h4
  have b8 : (k == 8) = q := by rw [← hq]; exact Bool.eq_iff_iff.2 (by simp)
  rw [e1, e2, e4, hq]
  clear hz
  go_enter Tryz.func49, Tryz.ntmps49
  go_wp2_with fail
  all_goals (go_ret; exact ⟨by first | rfl | (rw [b1, b2, b4, b8]; rfl), Below.refl _ _⟩)
set_option maxRecDepth 100000 in
theorem containsS_any {w : World} {v : Value} {r : List (List UInt8)} (hv : IsNms w v r) (k : List UInt8) (hn : r.length ≤ 8796093022208) :
    Calls Tryz.prog 51 #[v, .string (Mt.str k)] w fun e w' => e = .returned (.bool (decide (k ∈ r))) ∧ Below w.heap.size w w' := by
  obtain ⟨a, cap, rfl, hcap, hcell⟩ := hv
  have hd := Mt.atL_spec (fun x : List UInt8 => decide (x = k)) r
  have hany := Mt.atL_any (fun x : List UInt8 => decide (x = k)) r
  have hmem : r.any (fun x => decide (x = k)) = decide (k ∈ r) := by
    rw [Bool.eq_iff_iff, List.any_eq_true, decide_eq_true_eq]
    constructor
    · rintro ⟨x, hx, h⟩; rw [decide_eq_true_eq] at h; rw [← h]; exact hx
    · intro h; exact ⟨k, h, decide_eq_true rfl⟩
  obtain ⟨q, hq⟩ : ∃ q, Mt.atL (fun x : List UInt8 => decide (x = k)) r = q := ⟨_, rfl⟩
  rw [hq] at hd hany
  rw [← hmem, ← hany]
  obtain ⟨z, hz⟩ : ∃ z, decide (0 ≤ q) = z := ⟨_, rfl⟩
  rw [hz]
  have HD := Lib.hid hd
  have HZ := Lib.hid hz
  have HEQ : Hid (∀ x : List UInt8, ((Mt.str x).toList == (Mt.str k).toList) = decide (x = k)) := Lib.hid (fun x => by
    rw [ByteArray.toList_eq, ByteArray.toList_eq, Mt.str_data, Mt.str_data, Bool.eq_iff_iff]; simp)
  have HEQ2 : Hid (∀ x : List UInt8, ((Mt.str x).toList = (Mt.str k).toList) ↔ x = k) := Lib.hid (fun x => by
    rw [ByteArray.toList_eq, ByteArray.toList_eq, Mt.str_data, Mt.str_data])
  clear hd hany hmem hq hz
  obtain ⟨m0, hm0⟩ : ∃ m, r.length = m := ⟨_, rfl⟩
  have HL := Lib.hid hm0
  rw [hm0] at hn ⊢
  obtain ⟨KB, hKB⟩ : ∃ b, Mt.str k = b := ⟨_, rfl⟩
  rw [hKB] at HEQ HEQ2 ⊢
  clear hm0 hcap hKB
  have HIDX : Hid (Calls Tryz.prog 68 #[.slice a m0 cap, .string KB] w fun e w' => e = .returned (.int .i64 q) ∧ Below w.heap.size w w') := by
    refine Lib.hid ?_
    go_enter Tryz.func68, Tryz.ntmps68
    go_wp2_with fail
    go_loopw [8] (fun i wr => ∃ m : Nat, m ≤ m0 ∧ i = .int .i64 m ∧ Hid (∀ j (hj : j < r.length), j < m → decide (r[j] = k) = false) ∧ Hid (Below w.heap.size w wr))
      (fun i _ => m0 - (intOf i).toNat)
    case atStart => exact ⟨0, Nat.zero_le _, rfl, Lib.hid fun j _ h => absurd h (Nat.not_lt_zero _), Lib.hid (Below.refl _ _)⟩
    case round =>
      obtain ⟨m, hm, rfl, HO, HB⟩ := hrel
      by_cases hlt : m < m0
      · have hmr : m < r.length := by rw [HL.out]; exact hlt
        obtain ⟨b, off, e0, hbl, h0⟩ := hcell.out m hmr
        subst e0
        have x0 := (HB.out.cell (p := ⟨b, off + m, none⟩) hbl).trans h0
        have HE := Lib.hid (HEQ.out r[m])
        have HE2 := Lib.hid (HEQ2.out r[m])
        obtain ⟨t, ht⟩ : ∃ t, r[m] = t := ⟨_, rfl⟩
        rw [ht] at x0 HE HE2
        obtain ⟨TB, hTB⟩ : ∃ b, Mt.str t = b := ⟨_, rfl⟩
        rw [hTB] at x0 HE HE2
        have d1 : decide ((m : Int) < (m0 : Int)) = true := decide_eq_true (by omega)
        have d2 : decide (m < m0) = true := decide_eq_true hlt
        have i0 : (0 : Int) ≤ (m : Int) := by omega
        have HT := Lib.hid ht
        clear hbl h0 ht hTB
        by_cases hk : t = k
        · have c1 : (TB.toList == KB.toList) = true := by rw [HE.out]; exact decide_eq_true hk
          have c2 : TB.toList = KB.toList := HE2.out.2 hk
          have HQ : Hid (q = m) := Lib.hid (by
            rcases HD.out with ⟨_, h2⟩ | ⟨m2, rfl, hm2, h3, h4⟩
            · have := h2 m hmr; simp [HT.out, hk] at this
            · by_cases e : m2 = m
              · rw [e]
              · rcases Nat.lt_or_ge m2 m with h5 | h5
                · have := HO.out m2 hm2 h5; rw [h3] at this; cases this
                · have := h4 m (by omega); simp [HT.out, hk] at this)
          clear hk
          go_wp2_with fail
          all_goals (go_ret; exact ⟨by rw [HQ.out]; rfl, HB.out⟩)
        · have c1 : (TB.toList == KB.toList) = false := by rw [HE.out]; exact decide_eq_false hk
          have c2 : ¬ TB.toList = KB.toList := fun h => hk (HE2.out.1 h)
          have c3 : ¬ KB.toList = TB.toList := fun h => c2 h.symm
          have c4 : (KB.toList == TB.toList) = false := by simpa using c3
          have HO2 : Hid (∀ j (hj : j < r.length), j < m + 1 → decide (r[j] = k) = false) := Lib.hid (by
            intro j hj hlt2
            by_cases e : j = m
            · subst e; rw [HT.out]; exact decide_eq_false hk
            · exact HO.out j hj (by omega))
          clear hk
          go_wp2_with fail
          go_roundw
          case rel => exact ⟨m + 1, by omega, by go_num, HO2, HB⟩
          case measure => simp [intOf]; omega
      · obtain rfl : m = m0 := by omega
        have d1 : decide ((m : Int) < (m : Int)) = false := decide_eq_false (by omega)
        have d2 : decide (m < m) = false := decide_eq_false (by omega)
        have HQ : Hid (q = -1) := Lib.hid (by
          rcases HD.out with ⟨h, _⟩ | ⟨m2, rfl, hm2, h3, h4⟩
          · exact h
          · have := HO.out m2 hm2 (by rw [← HL.out]; exact hm2); rw [h3] at this; cases this)
        go_wp2_with fail
        all_goals (go_ret; exact ⟨by rw [HQ.out]; rfl, HB.out⟩)
  have hz2 : decide (q ≥ 0) = z := HZ.out
  have hz3 : decide (0 ≤ q) = z := HZ.out
  go_enter Tryz.func51, Tryz.ntmps51
  go_wp2_with fail
  refine (HIDX.out).mono ?_
  rintro e w2 ⟨rfl, hb⟩
  have HB2 := Lib.hid hb
  clear hb
  go_wp2_with fail
  all_goals (go_ret; exact ⟨by first | rfl | (rw [HZ.out]), HB2.out⟩)
end Go.Proofs.YtngdbhncafnliaaGreat

/-
  Of whom a rule that is read speaks; what rules allow of an attribute.
-/
namespace Go.Proofs.YtngdbhncafnliaaGreat
open Go.RowKit

theorem isEmpty_str (x : List UInt8) : (Mt.str x).toList.isEmpty = decide (x = []) := by
  rw [ByteArray.toList_eq, Mt.str_data, Bool.eq_iff_iff, List.isEmpty_iff, decide_eq_true_eq]
theorem str_eqB (x y : List UInt8) : ((Mt.str x).toList == (Mt.str y).toList) = decide (x = y) := by
  rw [ByteArray.toList_eq, ByteArray.toList_eq, Mt.str_data, Mt.str_data, Bool.eq_iff_iff]; simp
theorem str_eqP (x y : List UInt8) : ((Mt.str x).toList = (Mt.str y).toList) ↔ x = y := by
  rw [ByteArray.toList_eq, ByteArray.toList_eq, Mt.str_data, Mt.str_data]
/-- The six cells of a rule that stands alone. -/
theorem box6_of {w : World} {b : Nat} {v0 v1 v2 v3 v4 v5 : Value} {T : TypeId} (h : w.heap[b]? = some (.cells #[v0, v1, v2, v3, v4, v5] T)) :
    w.cell? ⟨b, 0, none⟩ = some v0 ∧ w.cell? ⟨b, 1, none⟩ = some v1 ∧ w.cell? ⟨b, 2, none⟩ = some v2 ∧ w.cell? ⟨b, 3, none⟩ = some v3 ∧ w.cell? ⟨b, 4, none⟩ = some v4 ∧ w.cell? ⟨b, 5, none⟩ = some v5 :=
  ⟨by rw [cell_of_row _ _ _ _ _ _ h]; rfl, by rw [cell_of_row _ _ _ _ _ _ h]; rfl, by rw [cell_of_row _ _ _ _ _ _ h]; rfl, by rw [cell_of_row _ _ _ _ _ _ h]; rfl, by rw [cell_of_row _ _ _ _ _ _ h]; rfl, by rw [cell_of_row _ _ _ _ _ _ h]; rfl⟩
set_option maxRecDepth 100000 in
set_option maxHeartbeats 2000000 in
theorem isOf_any {w : World} {v1 v2 : Value} {l1 l2 : List (List UInt8)} (c : Mt.Ru) (h1 : IsNms w v1 l1) (h2 : IsNms w v2 l2) (n1 : l1 ≠ []) (n2 : l2 ≠ []) (hl : l1.length ≤ 8796093022208) :
    Calls Tryz.prog 52 #[ruV c, v1, v2] w fun e w' => e = .returned (.bool (Mt.isOfA c l1 l2)) ∧ Below w.heap.size w w' := by
  have HCT := Lib.hid (fun (u : World) (hb : Below w.heap.size w u) (k : List UInt8) => containsS_any (h1.below hb) k hl)
  obtain ⟨who, dn, wh, att, rights, allow⟩ := c
  obtain ⟨x, t, rfl⟩ := List.exists_cons_of_ne_nil n1
  obtain ⟨y, s, rfl⟩ := List.exists_cons_of_ne_nil n2
  obtain ⟨a1, c1, rfl, hc1, H1⟩ := h1
  obtain ⟨a2, c2, rfl, hc2, H2⟩ := h2
  obtain ⟨b1, o1, rfl, hb1, hx1⟩ := H1.out 0 (by simp)
  obtain ⟨b2, o2, rfl, hb2, hx2⟩ := H2.out 0 (by simp)
  simp only [List.getElem_cons_zero, Nat.add_zero] at hx1 hx2
  unfold Mt.isOfA
  rw [List.headD_cons, List.headD_cons]
  have HU := isEmpty_str x
  have HXY := str_eqB x y
  have HXY2 := str_eqP x y
  have HXD := str_eqB x dn
  have HXD2 := str_eqP x dn
  have HCD := Lib.hid (fun (u : World) (hb : Below w.heap.size w u) => HCT.out u hb dn)
  unfold ruV
  simp only
  generalize Mt.str x = XB at *
  generalize Mt.str y = YB at *
  generalize Mt.str dn = DB at *
  generalize Mt.str wh = WB at *
  generalize Mt.str att = AB at *
  obtain ⟨K, hK⟩ : ∃ K, decide (dn ∈ x :: t) = K := ⟨_, rfl⟩
  rw [hK] at HCD ⊢
  simp only [List.length_cons] at hc1 hc2 hl HCD ⊢
  generalize t.length = m1 at *
  generalize s.length = m2 at *
  have i1 : (0 : Int) < ((m1 : Int) + 1) := by omega
  have i2 : (0 : Int) < ((m2 : Int) + 1) := by omega
  have i3 : 0 < m1 + 1 := by omega
  have i4 : 0 < m2 + 1 := by omega
  have i5 : (0 : Int) < ((m1 + 1 : Nat) : Int) := by omega
  have i6 : (0 : Int) < ((m2 + 1 : Nat) : Int) := by omega
  obtain ⟨w1, hw1⟩ : ∃ u, w.alloc (.cells #[.int .i64 who, .string DB, .string WB, .string AB, .int .i64 rights, .bool allow] 66) = u := ⟨_, rfl⟩
  have hA : Below w.heap.size w w1 := by rw [← hw1]; exact (Below.refl _ w).alloc (Nat.le_refl _) _
  have hr : w1.heap[w.heap.size]? = some (.cells #[.int .i64 who, .string DB, .string WB, .string AB, .int .i64 rights, .bool allow] 66) := by rw [← hw1]; exact heap_alloc_new w _
  obtain ⟨q0, q1, q2, q3, q4, q5⟩ := box6_of hr
  have x1 := (hA.cell (p := ⟨b1, o1, none⟩) hb1).trans hx1
  have x2 := (hA.cell (p := ⟨b2, o2, none⟩) hb2).trans hx2
  have HA := Lib.hid hA
  have HCD1 := Lib.hid (HCD.out w1 hA)
  clear hx1 hx2 hA hr H1 H2 n1 n2 HCT HCD hK hb1 hb2
  obtain ⟨E, hE⟩ : ∃ E, decide (x = []) = E := ⟨_, rfl⟩
  simp only [hE]
  rw [hE] at HU
  have hU2 : (XB.toList == []) = E := by rw [← HU]; cases XB.toList <;> rfl
  clear hE
  by_cases kk0 : who = 0
  · subst kk0
    simp only [if_true]
    go_enter Tryz.func52, Tryz.ntmps52
    go_wp2_with fail
    all_goals (go_ret; exact ⟨rfl, HA.out⟩)
  by_cases kk1 : who = 1
  · subst kk1
    rw [if_neg kk0, if_pos rfl]
    cases E
    all_goals
      go_enter Tryz.func52, Tryz.ntmps52
      go_wp2_with fail
      all_goals (go_ret; exact ⟨rfl, HA.out⟩)
  by_cases kk2 : who = 2
  · subst kk2
    rw [if_neg kk0, if_neg kk1, if_pos rfl]
    obtain ⟨z, hz⟩ : ∃ z, decide (x = y) = z := ⟨_, rfl⟩
    rw [hz] at HXY ⊢
    have HD1 : Hid (∀ n, Below w.heap.size w (w1.drewN n)) := Lib.hid (fun n => Below.drewS HA.out n)
    go_enter Tryz.func52, Tryz.ntmps52
    go_upto_region 8 with fail
    go_quiet (fail)
    have HD2 := Lib.hid (HD1.out nq)
    go_wp2_with fail
    all_goals (go_ret; exact ⟨rfl, HD2.out⟩)
  by_cases kk3 : who = 3
  · subst kk3
    rw [if_neg kk0, if_neg kk1, if_neg kk2, if_pos rfl]
    obtain ⟨z, hz⟩ : ∃ z, decide (x = dn) = z := ⟨_, rfl⟩
    rw [hz] at HXD ⊢
    have HD1 : Hid (∀ n, Below w.heap.size w (w1.drewN n)) := Lib.hid (fun n => Below.drewS HA.out n)
    go_enter Tryz.func52, Tryz.ntmps52
    go_upto_region 10 with fail
    go_quiet (fail)
    have HD2 := Lib.hid (HD1.out nq)
    go_wp2_with fail
    all_goals (go_ret; exact ⟨rfl, HD2.out⟩)
  by_cases kk4 : who = 4
  · subst kk4
    rw [if_neg kk0, if_neg kk1, if_neg kk2, if_neg kk3, if_pos rfl]
    cases E with
    | true =>
      go_enter Tryz.func52, Tryz.ntmps52
      go_wp2_with fail
      all_goals (go_ret; exact ⟨rfl, HA.out⟩)
    | false =>
      go_enter Tryz.func52, Tryz.ntmps52
      go_wp2_with fail
      refine (HCD1.out).mono ?_
      rintro e u2 ⟨rfl, hb⟩
      have HB2 := Lib.hid (HA.out.trans (hb.mono HA.out.size))
      clear hb
      go_wp2_with fail
      all_goals (go_ret; exact ⟨rfl, HB2.out⟩)
  rw [if_neg kk0, if_neg kk1, if_neg kk2, if_neg kk3, if_neg kk4]
  have d0 : (who == 0) = false := by simpa using kk0
  have d1 : (who == 1) = false := by simpa using kk1
  have d2 : (who == 2) = false := by simpa using kk2
  have d3 : (who == 3) = false := by simpa using kk3
  have d4 : (who == 4) = false := by simpa using kk4
  have e0 : decide (who = 0) = false := decide_eq_false kk0
  have e1 : decide (who = 1) = false := decide_eq_false kk1
  have e2 : decide (who = 2) = false := decide_eq_false kk2
  have e3 : decide (who = 3) = false := decide_eq_false kk3
  have e4 : decide (who = 4) = false := decide_eq_false kk4
  go_enter Tryz.func52, Tryz.ntmps52
  go_wp2_with fail
  all_goals (go_ret; exact ⟨rfl, HA.out⟩)
end Go.Proofs.YtngdbhncafnliaaGreat
