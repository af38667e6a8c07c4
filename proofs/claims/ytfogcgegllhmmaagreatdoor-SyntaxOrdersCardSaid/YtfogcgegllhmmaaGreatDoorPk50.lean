/-
  Some texts of one proof, one behind the other.
-/
import Derived.Test.YtfogcgegllhmmaaGreatDoorPk31
import Derived.Test.YtfogcgegllhmmaaGreatDoorPk48
import Derived.Test.YtfogcgegllhmmaaGreatDoorPk49
set_option linter.unusedVariables false
set_option linter.unusedSimpArgs false

/-
  The document's order.
-/
namespace Go.Proofs.YtfogcgegllhmmaaGreatDoor
open Go.RowKit Go.Lib

theorem run_lss (a b : ByteArray) (w : World) : Sem.run Tryz.prog (binOp BinOp.lss 9 (.string a) (.string b)) w = .ok (.bool (decide (a.data.toList < b.data.toList))) w := by
  have e : decide (a.data.toList < b.data.toList) = Op.bytesLess a.toList b.toList := by rw [bytesLess_eq, ByteArray.toList_eq, ByteArray.toList_eq]
  rw [e]
  rfl
set_option maxRecDepth 100000 in
/-- Without signs. -/
theorem raheadN_any (a b : ByteArray) (ha : 0 < a.size) (hb : 0 < b.size) (a45 : a[0].toNat ≠ 45) (b45 : b[0].toNat ≠ 45) (w : World) : Calls Tryz.prog 28 #[.string a, .string b] w fun e w' => e = .returned (.bool (Mt.aheadN a.data.toList b.data.toList)) ∧ w = w' := by
  have e1 : ((a[0].toNat : Int) == 45) = false := beq_eq_false_iff_ne.2 (by omega)
  have e2 : ((b[0].toNat : Int) == 45) = false := beq_eq_false_iff_ne.2 (by omega)
  have hai : (0 : Int) < (a.size : Int) := by omega
  have hbi : (0 : Int) < (b.size : Int) := by omega
  have hla : a.data.toList.length = a.size := rfl
  have hlb : b.data.toList.length = b.size := rfl
  have hN : Mt.aheadN a.data.toList b.data.toList = (decide (a.size < b.size) || (decide (a.size = b.size) && decide (a.data.toList < b.data.toList))) := by unfold Mt.aheadN; rw [hla, hlb]
  have hl := run_lss a b w
  obtain ⟨q, hq⟩ : ∃ q, decide (a.data.toList < b.data.toList) = q := ⟨_, rfl⟩
  have hq2 : Op.bytesLess a.toList b.toList = q := by rw [bytesLess_eq, ByteArray.toList_eq, ByteArray.toList_eq]; exact hq
  rw [hq] at hl hN
  have HN := Lib.hid hN
  generalize Mt.aheadN a.data.toList b.data.toList = R at *
  clear hN hq hla hlb a45 b45
  by_cases h1 : a.size < b.size
  · have d1 : decide ((a.size : Int) < (b.size : Int)) = true := decide_eq_true (by omega)
    have d1n : decide (a.size < b.size) = true := decide_eq_true h1
    have HR := Lib.hid (show R = true by rw [HN.out, d1n]; rfl)
    clear h1
    go_enter Tryz.func28, Tryz.ntmps28
    go_wp2_with fail
    go_ret
    exact ⟨by rw [HR.out]; rfl, rfl⟩
  · have d1 : decide ((a.size : Int) < (b.size : Int)) = false := decide_eq_false (by omega)
    have d1n : decide (a.size < b.size) = false := decide_eq_false h1
    by_cases h2 : a.size = b.size
    · have d2 : ((a.size : Int) == (b.size : Int)) = true := beq_iff_eq.2 (by omega)
      have d2n : (a.size == b.size) = true := beq_iff_eq.2 h2
      have HR := Lib.hid (show R = q by rw [HN.out, d1n, decide_eq_true h2]; simp)
      have H2 := Lib.hid h2
      clear h1 h2
      go_enter Tryz.func28, Tryz.ntmps28
      go_wp2_with fail
      go_ret
      exact ⟨by rw [HR.out]; rfl, rfl⟩
    · have d2 : ((a.size : Int) == (b.size : Int)) = false := beq_eq_false_iff_ne.2 (by omega)
      have d2n : (a.size == b.size) = false := beq_eq_false_iff_ne.2 h2
      have HR := Lib.hid (show R = false by rw [HN.out, d1n, decide_eq_false h2]; rfl)
      clear h1 h2
      go_enter Tryz.func28, Tryz.ntmps28
      go_wp2_with fail
      go_ret
      exact ⟨by rw [HR.out]; rfl, rfl⟩
theorem head_at (a : ByteArray) (ha : 0 < a.size) : (a.data.toList.head? = some 45) ↔ a[0].toNat = 45 := by
  have hl : a.data.toList.length = a.size := rfl
  rw [List.head?_eq_getElem?, List.getElem?_eq_getElem (by omega)]
  constructor
  · intro h
    injection h with h
    have h2 : a[0] = 45 := h
    rw [h2]; rfl
  · intro h
    exact congrArg some (UInt8.toNat_inj.1 (show a[0].toNat = (45 : UInt8).toNat from h))
set_option maxRecDepth 100000 in
theorem rahead_any (a b : ByteArray) (ha : 0 < a.size) (hb : 0 < b.size) (hat : a[0].toNat = 45 → ∃ h : 1 < a.size, a[1].toNat ≠ 45) (hbt : b[0].toNat = 45 → ∃ h : 1 < b.size, b[1].toNat ≠ 45) (w : World) :
    Calls Tryz.prog 28 #[.string a, .string b] w fun e w' => e = .returned (.bool (Mt.ahead a.data.toList b.data.toList)) ∧ Below w.heap.size w w' := by
  have hai : (0 : Int) < (a.size : Int) := by omega
  have hbi : (0 : Int) < (b.size : Int) := by omega
  by_cases a45 : a[0].toNat = 45
  · by_cases b45 : b[0].toNat = 45
    · have e1 : ((a[0].toNat : Int) == 45) = true := beq_iff_eq.2 (by omega)
      have e2 : ((b[0].toNat : Int) == 45) = true := beq_iff_eq.2 (by omega)
      obtain ⟨ha1, ha2⟩ := hat a45
      obtain ⟨hb1, hb2⟩ := hbt b45
      have hza : (a.extract 1 a.size).size = a.size - 1 := ext_size a 1 a.size (Nat.le_refl _)
      have hzb : (b.extract 1 b.size).size = b.size - 1 := ext_size b 1 b.size (Nat.le_refl _)
      have HT := Lib.hid (fun u => raheadN_any (b.extract 1 b.size) (a.extract 1 a.size) (by omega) (by omega) (by rw [ByteArray.getElem_extract]; exact hb2) (by rw [ByteArray.getElem_extract]; exact ha2) u)
      have ed : ∀ s : ByteArray, (s.extract 1 s.size).data.toList = s.data.toList.tail := fun s => by
        have : s.data.toList.length = s.size := rfl
        rw [ext_data, List.take_of_length_le (by rw [List.length_drop]; omega), List.drop_one]
      rw [ed, ed] at HT
      have hA : Mt.ahead a.data.toList b.data.toList = Mt.aheadN b.data.toList.tail a.data.toList.tail := by
        unfold Mt.ahead; rw [if_pos ⟨(head_at a ha).2 a45, (head_at b hb).2 b45⟩]
      rw [hA]
      have k1 : (1 : Int) ≤ (a.size : Int) := by omega
      have k2 : (1 : Int) ≤ (b.size : Int) := by omega
      clear hA ed hza hzb hat hbt ha1 ha2 hb1 hb2 a45 b45
      go_enter Tryz.func28, Tryz.ntmps28
      go_upto_region 2 with fail
      have HB := Lib.hid ((Below.refl w.heap.size w).drew)
      go_region_law (first | (go_simp; go_at_call 28; refine (HT.out _).mono ?_; rintro e wx ⟨rfl, rfl⟩))
      all_goals
        go_wp2_with fail
        go_ret
        exact ⟨rfl, HB.out⟩
    · have e1 : ((a[0].toNat : Int) == 45) = true := beq_iff_eq.2 (by omega)
      have e2 : ((b[0].toNat : Int) == 45) = false := beq_eq_false_iff_ne.2 (by omega)
      have hA : Mt.ahead a.data.toList b.data.toList = true := by
        unfold Mt.ahead; rw [if_neg (fun h => b45 ((head_at b hb).1 h.2)), if_pos (.inl ((head_at a ha).2 a45)), decide_eq_true ((head_at a ha).2 a45)]
      rw [hA]
      clear hA hat hbt a45 b45
      go_enter Tryz.func28, Tryz.ntmps28
      go_wp2_with fail
      go_ret
      exact ⟨rfl, Below.refl _ _⟩
  · by_cases b45 : b[0].toNat = 45
    · have e1 : ((a[0].toNat : Int) == 45) = false := beq_eq_false_iff_ne.2 (by omega)
      have e2 : ((b[0].toNat : Int) == 45) = true := beq_iff_eq.2 (by omega)
      have hA : Mt.ahead a.data.toList b.data.toList = false := by
        unfold Mt.ahead; rw [if_neg (fun h => a45 ((head_at a ha).1 h.1)), if_pos (.inr ((head_at b hb).2 b45)), decide_eq_false (fun h => a45 ((head_at a ha).1 h))]
      rw [hA]
      clear hA hat hbt a45 b45
      go_enter Tryz.func28, Tryz.ntmps28
      go_wp2_with fail
      go_ret
      exact ⟨rfl, Below.refl _ _⟩
    · have hA : Mt.ahead a.data.toList b.data.toList = Mt.aheadN a.data.toList b.data.toList := by
        unfold Mt.ahead; rw [if_neg (fun h => a45 ((head_at a ha).1 h.1)), if_neg (fun h => h.elim (fun h => a45 ((head_at a ha).1 h)) (fun h => b45 ((head_at b hb).1 h)))]
      rw [hA]
      exact (raheadN_any a b ha hb a45 b45 w).mono fun _ _ ⟨h1, h2⟩ => ⟨h1, by rw [h2]; exact Below.refl _ _⟩
end Go.Proofs.YtfogcgegllhmmaaGreatDoor

/-
  The document's Order.
-/
namespace Go.Proofs.YtfogcgegllhmmaaGreatDoor
open Go.RowKit Go.Lib

theorem Mt.cmp_lt : ∀ a b : List UInt8, a ≠ b → compareBytes a b = if a < b then -1 else 1
  | [], [], h => absurd rfl h
  | [], _ :: _, _ => by rw [if_pos (List.nil_lt_cons _ _)]; rfl
  | _ :: _, [], _ => by rw [if_neg (List.not_lt_nil _)]; rfl
  | a :: p, b :: q, h => by
    rw [show compareBytes (a :: p) (b :: q) = if a < b then -1 else if b < a then 1 else compareBytes p q from rfl]
    rcases Mt.u8_tri a b with ⟨h1, h2, h3⟩ | ⟨rfl, h1⟩ | ⟨h1, h2, h3⟩
    · rw [if_pos h1, if_pos (List.cons_lt_cons_iff.2 (.inl h1))]
    · have hne : p ≠ q := fun e => h (by rw [e])
      rw [if_neg h1, if_neg h1, Mt.cmp_lt p q hne]
      by_cases g : p < q
      · rw [if_pos g, if_pos (List.cons_lt_cons_iff.2 (.inr ⟨rfl, g⟩))]
      · rw [if_neg g, if_neg (fun k => g (by rcases List.cons_lt_cons_iff.1 k with k | k; exact absurd k h1; exact k.2))]
    · rw [if_neg h2, if_pos h1, if_neg (fun k => by rcases List.cons_lt_cons_iff.1 k with k | k; exact h2 k; exact h3 k.1)]
/-- What Order comes to, of two normal forms. -/
theorem Mt.order_some {syn : Int} {a b x y : List UInt8} (ha : Mt.normS syn a = some x) (hb : Mt.normS syn b = some y) :
    Mt.orderS syn a b = if 5 ≤ syn ∧ syn ≤ 7 then (0, false) else if x = y then (0, true) else if syn = 4 then (if Mt.ahead x y = true then -1 else 1, true) else (if x < y then -1 else 1, true) := by
  have hs : syn = 1 ∨ syn = 2 ∨ syn = 3 ∨ syn = 4 ∨ syn = 5 ∨ syn = 6 ∨ syn = 7 ∨ syn = 8 := by
    by_cases h : syn ≠ 1 ∧ syn ≠ 2 ∧ syn ≠ 3 ∧ syn ≠ 4 ∧ syn ≠ 5 ∧ syn ≠ 6 ∧ syn ≠ 7 ∧ syn ≠ 8
    · rw [Mt.n12_no h] at ha; cases ha
    · omega
  unfold Mt.orderS
  rw [ha, hb]
  dsimp only
  by_cases h57 : 5 ≤ syn ∧ syn ≤ 7
  · rw [if_pos h57, if_neg (by omega), if_neg (by omega)]
  · rw [if_neg h57]
    by_cases h4 : syn = 4
    · subst h4
      have num : ∀ {l L : List UInt8}, Mt.normS 4 l = some L → ∃ k, Mt.numV L = some k := by
        intro l L h
        unfold Mt.normS at h
        split at h
        · cases h
        · rw [if_neg (by decide)] at h
          split at h
          · cases h
          · rename_i hv
            rw [if_neg (by decide)] at h
            obtain rfl := Option.some.inj h
            rw [Mt.v12_4] at hv
            cases hk : Mt.numV l with
            | none => rw [hk] at hv; exact absurd rfl hv
            | some k => exact ⟨k, rfl⟩
      obtain ⟨m, em⟩ := num ha
      obtain ⟨n, en⟩ := num hb
      obtain ⟨_, rfl⟩ := (Mt.numV_iff _ _).1 em
      obtain ⟨_, rfl⟩ := (Mt.numV_iff _ _).1 en
      rw [em, en, if_neg (by decide), if_pos rfl, if_pos rfl, Mt.ahead_itoa]
      have e1 : (some m).getD 0 = m := rfl
      have e2 : (some n).getD 0 = n := rfl
      rw [e1, e2]
      by_cases g : m < n
      · rw [if_pos g, if_neg (fun e => by rw [e] at em; rw [em] at en; injection en; omega), decide_eq_true g, if_pos rfl]
      · rw [if_neg g]
        by_cases g2 : n < m
        · rw [if_pos g2, if_neg (fun e => by rw [e] at em; rw [em] at en; injection en; omega), decide_eq_false g, if_neg (by decide)]
        · have : m = n := by omega
          subst this
          rw [if_neg g2, if_pos rfl]
    · rw [if_pos (by omega), if_neg h4]
      by_cases g : x = y
      · rw [if_pos g, (Mt.cmp_same x y).2 g]
      · rw [if_neg g, Mt.cmp_lt x y g]
end Go.Proofs.YtfogcgegllhmmaaGreatDoor

/-
  The document's Order: its walk.
-/
namespace Go.Proofs.YtfogcgegllhmmaaGreatDoor
open Go.RowKit Go.Lib

theorem num_sign (m : Int) : ∃ h : 0 < (Mt.str (itoa m)).size, (Mt.str (itoa m))[0].toNat = 45 → ∃ h : 1 < (Mt.str (itoa m)).size, (Mt.str (itoa m))[1].toNat ≠ 45 := by
  have hz : (Mt.str (itoa m)).size = (itoa m).length := Mt.str_size _
  have key : ∀ l : List UInt8, l = itoa m → ∃ h : 0 < (Mt.str l).size, (Mt.str l)[0].toNat = 45 → ∃ h : 1 < (Mt.str l).size, (Mt.str l)[1].toNat ≠ 45 := by
    intro l hl
    unfold itoa at hl
    by_cases hm : m < 0
    · rw [if_pos hm] at hl
      match hd : decDigits m.natAbs with
      | [] => exact absurd hd (Mt.dec_ne _)
      | c :: r =>
        rw [hd] at hl
        subst hl
        have hc := Mt.dec_isD m.natAbs c (by rw [hd]; exact List.mem_cons_self ..)
        unfold Mt.isD at hc
        refine ⟨by rw [Mt.str_size]; simp, fun _ => ⟨by rw [Mt.str_size]; simp, ?_⟩⟩
        show c.toNat ≠ 45
        omega
    · rw [if_neg hm] at hl
      match hd : decDigits m.toNat with
      | [] => exact absurd hd (Mt.dec_ne _)
      | c :: r =>
        rw [hd] at hl
        subst hl
        have hc := Mt.dec_isD m.toNat c (by rw [hd]; exact List.mem_cons_self ..)
        unfold Mt.isD at hc
        refine ⟨by rw [Mt.str_size]; simp, fun h => ?_⟩
        have h' : c.toNat = 45 := h
        omega
  exact key _ rfl
theorem norm4_itoa {l x : List UInt8} (h : Mt.normS 4 l = some x) : ∃ m, x = itoa m := by
  unfold Mt.normS at h
  split at h
  · cases h
  · rw [if_neg (by decide)] at h
    split at h
    · cases h
    · rename_i hv
      rw [if_neg (by decide)] at h
      obtain rfl := Option.some.inj h
      rw [Mt.v12_4] at hv
      cases hk : Mt.numV l with
      | none => rw [hk] at hv; exact absurd rfl hv
      | some k => exact ⟨k, ((Mt.numV_iff _ _).1 hk).2.symm⟩
set_option maxRecDepth 100000 in
set_option maxHeartbeats 2000000 in
theorem rorder12_any (syn : Int) (a b : ByteArray) (ha : a.size ≤ 70368744177664) (hb : b.size ≤ 70368744177664) (w : World) : Calls Tryz.prog 13 #[.int .i64 syn, .string a, .string b] w fun e w' => e = .returned (orderV (Mt.orderS syn a.data.toList b.data.toList)) ∧ Below w.heap.size w w' := by
  have H1 := Lib.hid (rnorm12_any syn a ha w)
  have H2 := Lib.hid (fun u => rnorm12_any syn b hb u)
  cases h1 : Mt.normS syn a.data.toList with
  | none =>
    rw [Mt.orderS_none1 h1]
    rw [h1] at H1
    obtain ⟨B, fb, hB⟩ : ∃ B fb, normV (Mt.normS syn b.data.toList) = .tuple #[.string B, .bool fb] := ⟨_, _, rfl⟩
    rw [hB] at H2
    unfold normV Mt.optT at H1
    dsimp only [Option.getD, Option.isSome] at H1
    clear h1 ha hb hB
    go_enter Tryz.func13, Tryz.ntmps13
    go_wp2_with fail
    refine (H1.out).mono ?_
    rintro e w1 ⟨rfl, hb⟩
    have HB := Lib.hid hb
    clear hb
    go_wp2_with fail
    refine (H2.out _).mono ?_
    rintro e w2 ⟨rfl, hb⟩
    replace HB := Lib.hid (HB.out.trans (hb.mono HB.out.size))
    clear hb
    go_wp2_with fail
    go_ret2
    exact ⟨rfl, HB.out⟩
  | some x =>
    cases h2 : Mt.normS syn b.data.toList with
    | none =>
      rw [Mt.orderS_none2 h2]
      rw [h1] at H1
      rw [h2] at H2
      unfold normV Mt.optT at H1 H2
      dsimp only [Option.getD, Option.isSome] at H1 H2
      clear h1 h2 ha hb
      go_enter Tryz.func13, Tryz.ntmps13
      go_wp2_with fail
      refine (H1.out).mono ?_
      rintro e w1 ⟨rfl, hb⟩
      have HB := Lib.hid hb
      clear hb
      go_wp2_with fail
      refine (H2.out _).mono ?_
      rintro e w2 ⟨rfl, hb⟩
      replace HB := Lib.hid (HB.out.trans (hb.mono HB.out.size))
      clear hb
      go_wp2_with fail
      go_ret2
      exact ⟨rfl, HB.out⟩
    | some y =>
      rw [Mt.order_some h1 h2]
      rw [h1] at H1
      rw [h2] at H2
      unfold normV Mt.optT at H1 H2
      dsimp only [Option.getD, Option.isSome] at H1 H2
      have HX := Lib.hid h1
      have HY := Lib.hid h2
      clear h1 h2 ha hb
      by_cases h57 : 5 ≤ syn ∧ syn ≤ 7
      · rw [if_pos h57]
        have g5 : decide (5 ≤ syn) = true := decide_eq_true h57.1
        have g7 : decide (syn ≤ 7) = true := decide_eq_true h57.2
        clear h57
        go_enter Tryz.func13, Tryz.ntmps13
        go_wp2_with fail
        refine (H1.out).mono ?_
        rintro e w1 ⟨rfl, hb⟩
        have HB := Lib.hid hb
        clear hb
        go_wp2_with fail
        refine (H2.out _).mono ?_
        rintro e w2 ⟨rfl, hb⟩
        replace HB := Lib.hid (HB.out.trans (hb.mono HB.out.size))
        clear hb
        go_wp2_with fail
        go_ret2
        exact ⟨rfl, HB.out⟩
      rw [if_neg h57]
      have hg : (decide (5 ≤ syn) = false) ∨ (decide (5 ≤ syn) = true ∧ decide (syn ≤ 7) = false) := by
        by_cases h5 : 5 ≤ syn
        · exact .inr ⟨decide_eq_true h5, decide_eq_false (fun h => h57 ⟨h5, h⟩)⟩
        · exact .inl (decide_eq_false h5)
      clear h57
      by_cases hxy : x = y
      · subst hxy
        rw [if_pos rfl]
        generalize Mt.str x = A at *
        rcases hg with g5 | ⟨g5, g7⟩
        all_goals
          go_enter Tryz.func13, Tryz.ntmps13
          go_wp2_with fail
          refine (H1.out).mono ?_
          rintro e w1 ⟨rfl, hb⟩
          have HB := Lib.hid hb
          clear hb
          go_wp2_with fail
          refine (H2.out _).mono ?_
          rintro e w2 ⟨rfl, hb⟩
          replace HB := Lib.hid (HB.out.trans (hb.mono HB.out.size))
          clear hb
          go_wp2_with fail
          go_ret2
          exact ⟨rfl, HB.out⟩
      rw [if_neg hxy]
      have n1 : ¬ (Mt.str x).toList = (Mt.str y).toList := by rw [ByteArray.toList_eq, ByteArray.toList_eq]; exact hxy
      have n2 : ((Mt.str x).toList == (Mt.str y).toList) = false := by simpa using n1
      by_cases h4 : syn = 4
      · subst h4
        rw [if_pos rfl]
        obtain ⟨m, hm⟩ := norm4_itoa HX.out
        obtain ⟨n, hn⟩ := norm4_itoa HY.out
        obtain ⟨zx, sx⟩ := num_sign m
        obtain ⟨zy, sy⟩ := num_sign n
        have HR : Hid (∀ u, Calls Tryz.prog 28 #[.string (Mt.str x), .string (Mt.str y)] u fun e w' => e = .returned (.bool (Mt.ahead x y)) ∧ Below u.heap.size u w') := by
          subst hm
          subst hn
          exact Lib.hid (fun u => rahead_any _ _ zx zy sx sy u)
        clear zx sx zy sy hm hn hxy HX HY
        generalize Mt.str x = A at *
        generalize Mt.str y = B at *
        generalize Mt.ahead x y = r at *
        clear hg
        cases r with
        | true =>
          rw [if_pos rfl]
          go_enter Tryz.func13, Tryz.ntmps13
          go_wp2_with fail
          refine (H1.out).mono ?_
          rintro e w1 ⟨rfl, hb⟩
          have HB := Lib.hid hb
          clear hb
          go_wp2_with fail
          refine (H2.out _).mono ?_
          rintro e w2 ⟨rfl, hb⟩
          replace HB := Lib.hid (HB.out.trans (hb.mono HB.out.size))
          clear hb
          go_wp2_with fail
          refine (HR.out _).mono ?_
          rintro e w3 ⟨rfl, hb⟩
          replace HB := Lib.hid (HB.out.trans (hb.mono HB.out.size))
          clear hb
          go_wp2_with fail
          go_ret2
          exact ⟨rfl, HB.out⟩
        | false =>
          rw [if_neg (by decide)]
          go_enter Tryz.func13, Tryz.ntmps13
          go_wp2_with fail
          refine (H1.out).mono ?_
          rintro e w1 ⟨rfl, hb⟩
          have HB := Lib.hid hb
          clear hb
          go_wp2_with fail
          refine (H2.out _).mono ?_
          rintro e w2 ⟨rfl, hb⟩
          replace HB := Lib.hid (HB.out.trans (hb.mono HB.out.size))
          clear hb
          go_wp2_with fail
          refine (HR.out _).mono ?_
          rintro e w3 ⟨rfl, hb⟩
          replace HB := Lib.hid (HB.out.trans (hb.mono HB.out.size))
          clear hb
          go_wp2_with fail
          go_ret2
          exact ⟨rfl, HB.out⟩
      · rw [if_neg h4]
        have n4 : (syn == 4) = false := beq_eq_false_iff_ne.2 h4
        have n4' : (syn != 4) = true := by simp [h4]
        have hlx := fun u => run_lss (Mt.str x) (Mt.str y) u
        rw [Mt.str_data, Mt.str_data] at hlx
        have hq2 : Op.bytesLess (Mt.str x).toList (Mt.str y).toList = decide (x < y) := by rw [bytesLess_eq, ByteArray.toList_eq, ByteArray.toList_eq]; rfl
        have hc : (decide (x < y) = true ∧ (if x < y then (-1 : Int) else 1) = -1) ∨ (decide (x < y) = false ∧ (if x < y then (-1 : Int) else 1) = 1) := by
          by_cases h : x < y
          · exact .inl ⟨decide_eq_true h, if_pos h⟩
          · exact .inr ⟨decide_eq_false h, if_neg h⟩
        generalize (if x < y then (-1 : Int) else 1) = o at *
        generalize decide (x < y) = q at *
        clear h4 hxy HX HY
        generalize Mt.str x = A at *
        generalize Mt.str y = B at *
        rcases hg with g5 | ⟨g5, g7⟩ <;> rcases hc with ⟨rfl, rfl⟩ | ⟨rfl, rfl⟩
        all_goals
          go_enter Tryz.func13, Tryz.ntmps13
          go_wp2_with fail
          refine (H1.out).mono ?_
          rintro e w1 ⟨rfl, hb⟩
          have HB := Lib.hid hb
          clear hb
          go_wp2_with fail
          refine (H2.out _).mono ?_
          rintro e w2 ⟨rfl, hb⟩
          replace HB := Lib.hid (HB.out.trans (hb.mono HB.out.size))
          clear hb
          go_wp2_with fail
          go_ret2
          exact ⟨rfl, HB.out⟩
end Go.Proofs.YtfogcgegllhmmaaGreatDoor
