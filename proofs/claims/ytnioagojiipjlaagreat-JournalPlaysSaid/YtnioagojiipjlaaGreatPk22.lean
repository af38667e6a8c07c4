/-
  Some texts of one proof, one behind the other.
-/
import Derived.Deep.QuietTactic
import Derived.BigQuiet
import Derived.Test.YtnioagojiipjlaaGreatPk12
import Derived.Test.YtnioagojiipjlaaGreatPk15
import Derived.Test.YtnioagojiipjlaaGreatPk17
import Derived.Test.YtnioagojiipjlaaGreatPk19
import Derived.Test.YtnioagojiipjlaaGreatPk21

/-
  Plain facts: records laid one behind the other are sectors written one behind the other.
-/
namespace Go.Proofs.YtnioagojiipjlaaGreat
open Go.RowKit
namespace Mt
theorem wrS_append (y : List (List UInt8)) : ∀ (x : List (List UInt8)) (d : Dk) (a : Nat), wrS d a (x ++ y) = if (wrS d a x).2 = 0 then wrS (wrS d a x).1 (a + x.length) y else wrS d a x
  | [], d, a => by simp [wrS]
  | s :: r, d, a => by
    rw [List.cons_append, wrS, wrS]
    by_cases h : (d.write a s).2 = 0
    · rw [if_pos h, if_pos h, wrS_append y r, List.length_cons, show a + 1 + r.length = a + (r.length + 1) by omega]
    · rw [if_neg h, if_neg h, if_neg h]
/-- The sectors of records, one behind the other. -/
def allSecs (gen : Nat) : Nat → List (List UInt8) → List (List UInt8)
  | _, [] => []
  | n, b :: r => secsOf gen n b ++ allSecs gen (n + 1) r
theorem secsOf_length (gen n : Nat) (b : List UInt8) : (secsOf gen n b).length = cellsN b.length := by unfold secsOf; rw [List.length_map, List.length_range]
theorem allSecs_length (gen : Nat) : ∀ (bs : List (List UInt8)) (n : Nat), (allSecs gen n bs).length = needs bs
  | [], _ => rfl
  | b :: r, n => by rw [allSecs, List.length_append, secsOf_length, allSecs_length gen r, needs]
theorem allSecs_append (gen : Nat) : ∀ (a b : List (List UInt8)) (n : Nat), allSecs gen n (a ++ b) = allSecs gen n a ++ allSecs gen (n + a.length) b
  | [], b, n => by simp [allSecs]
  | x :: r, b, n => by
    rw [List.cons_append, allSecs, allSecs_append gen r b, allSecs, List.append_assoc, List.length_cons, show n + 1 + r.length = n + (r.length + 1) by omega]
theorem putsJ_wr : ∀ (bs : List (List UInt8)) (d : Dk) (j : Jn), (putsJ d j bs).1 = (wrS d (j.first d.lasts.length + j.used) (allSecs j.gen j.count bs)).1 ∧ (putsJ d j bs).2.2 = (wrS d (j.first d.lasts.length + j.used) (allSecs j.gen j.count bs)).2 ∧
    ((putsJ d j bs).2.2 = 0 → (putsJ d j bs).2.1 = { j with count := j.count + bs.length, used := j.used + needs bs })
  | [], d, j => ⟨rfl, rfl, fun _ => rfl⟩
  | b :: r, d, j => by
    have hp1 : (putJ d j b).2.2 = (wrS d (j.first d.lasts.length + j.used) (secsOf j.gen j.count b)).2 := by
      unfold putJ; split
      · rename_i h; exact h.symm
      · rfl
    have hp2 : (putJ d j b).1 = (wrS d (j.first d.lasts.length + j.used) (secsOf j.gen j.count b)).1 := by unfold putJ; split <;> rfl
    rw [allSecs, wrS_append, putsJ]
    by_cases h : (wrS d (j.first d.lasts.length + j.used) (secsOf j.gen j.count b)).2 = 0
    · have hj : (putJ d j b).2.1 = { j with count := j.count + 1, used := j.used + cellsN b.length } := by unfold putJ; rw [if_pos h]
      have hl : (putJ d j b).1.lasts.length = d.lasts.length := by rw [hp2]; exact Mt.wrS_len _ _ _
      rw [if_pos (by rw [hp1]; exact h), if_pos h, hj, ← hp2, secsOf_length]
      have ih := putsJ_wr r (putJ d j b).1 { j with count := j.count + 1, used := j.used + cellsN b.length }
      have hf : (({ j with count := j.count + 1, used := j.used + cellsN b.length } : Jn).first (putJ d j b).1.lasts.length + ({ j with count := j.count + 1, used := j.used + cellsN b.length } : Jn).used) = j.first d.lasts.length + j.used + cellsN b.length := by
        rw [hl]; show j.first d.lasts.length + (j.used + cellsN b.length) = _; omega
      rw [hf] at ih
      refine ⟨ih.1, ih.2.1, fun h0 => ?_⟩
      rw [ih.2.2 h0, List.length_cons, needs]
      simp only [Jn.mk.injEq, true_and, and_true]
      omega
    · rw [if_neg (by rw [hp1]; exact h), if_neg h]
      exact ⟨hp2, hp1, fun h0 => absurd (hp1.symm.trans h0) h⟩
/-- What the document's Reset writes: the records, then the head. -/
def refLay (d : Dk) (j : Jn) (bs : List (List UInt8)) : Dk × Int :=
  if (wrF d (j.next.first d.lasts.length) (allSecs (j.gen + 1) 0 bs)).2 = 0 then wrF (wrF d (j.next.first d.lasts.length) (allSecs (j.gen + 1) 0 bs)).1 (1 - j.head) [hdSector (j.gen + 1) (1 - j.half)] else wrF d (j.next.first d.lasts.length) (allSecs (j.gen + 1) 0 bs)
theorem fillJ_ref (d : Dk) (j : Jn) (bs : List (List UInt8)) : (fillJ d j.next bs).1 = (refLay d j bs).1 ∧ (fillJ d j.next bs).2.2 = (refLay d j bs).2 ∧ ((fillJ d j.next bs).2.2 = 0 → (fillJ d j.next bs).2.1 = { j.next with count := bs.length, used := needs bs }) := by
  obtain ⟨h1, h2, h3⟩ := putsJ_wr bs d j.next
  have hu : j.next.first d.lasts.length + j.next.used = j.next.first d.lasts.length := rfl
  rw [hu] at h1 h2
  have hg : allSecs j.next.gen j.next.count bs = allSecs (j.gen + 1) 0 bs := rfl
  rw [hg] at h1 h2
  unfold fillJ refLay wrF
  by_cases h : (wrS d (j.next.first d.lasts.length) (allSecs (j.gen + 1) 0 bs)).2 = 0
  · have hj := h3 (h2.trans h)
    rw [if_pos (h2.trans h), if_pos h, hj, h1]
    generalize (wrS d (j.next.first d.lasts.length) (allSecs (j.gen + 1) 0 bs)).1 = D
    have hj2 : ({ j.next with count := j.next.count + bs.length, used := j.next.used + needs bs } : Jn) = { j.next with count := bs.length, used := needs bs } := by
      show Jn.mk _ _ _ (0 + bs.length) (0 + needs bs) _ = _
      rw [Nat.zero_add, Nat.zero_add]
    rw [hj2]
    have he : endJ D { j.next with count := bs.length, used := needs bs } = if D.flush.2 = 0 then (if (wrS D.flush.1 (1 - j.head) [hdSector (j.gen + 1) (1 - j.half)]).2 = 0 then (wrS D.flush.1 (1 - j.head) [hdSector (j.gen + 1) (1 - j.half)]).1.flush else wrS D.flush.1 (1 - j.head) [hdSector (j.gen + 1) (1 - j.half)]) else D.flush := by
      unfold endJ
      show (if D.flush.2 = 0 then (if (D.flush.1.write ((1 - j.head : Nat) : Int) (hdSector (j.gen + 1) (1 - j.half))).2 = 0 then (D.flush.1.write ((1 - j.head : Nat) : Int) (hdSector (j.gen + 1) (1 - j.half))).1.flush else D.flush.1.write ((1 - j.head : Nat) : Int) (hdSector (j.gen + 1) (1 - j.half))) else D.flush) = _
      by_cases hf : D.flush.2 = 0
      · rw [if_pos hf, if_pos hf]
        simp only [wrS]
        by_cases hw : (D.flush.1.write ((1 - j.head : Nat) : Int) (hdSector (j.gen + 1) (1 - j.half))).2 = 0
        · simp [hw]
        · simp [hw]
      · rw [if_neg hf, if_neg hf]
    rw [he]
    exact ⟨rfl, rfl, fun _ => rfl⟩
  · rw [if_neg (fun e => h (h2.symm.trans e)), if_neg h, if_neg h]
    exact ⟨h1, h2, fun e => absurd (h2.symm.trans e) h⟩
end Mt
end Go.Proofs.YtnioagojiipjlaaGreat

/-
  Rows of the call's own beside the document's disk.
-/
namespace Go.Proofs.YtnioagojiipjlaaGreat
open Go.RowKit Go.Maps
section
variable {w u : World} {Q : Nat} {g : Rg} {t : Nat} {j : Mt.Jn} {sl : Int} {d : Mt.Dk}
theorem QD.lts (h : QD w Q g t j sl d) : g.R < g.D ∧ g.bl < g.D ∧ g.bw < g.D ∧ g.D ≤ w.heap.size ∧ Q < w.heap.size := by
  have hq := lt_of_block h.jn
  have h4 := h.four
  obtain ⟨lim, most, tv, tn, tcs, hd, _⟩ := h.dk
  obtain ⟨a1, a2, _⟩ := hd.apart (by omega)
  exact ⟨hd.ltR, a1, a2, hd.size, hq⟩
theorem QD.more (h : QD w Q g t j sl d) (hb : Below w.heap.size w u) {b : Nat} (h1 : w.heap.size ≤ b) (h2 : b < u.heap.size) : QD u Q (g.more b) t j sl d :=
  ⟨h.jn.below hb, h.dk.more hb h1 h2, .inl h.kept, h.ne, h.four, h.half, h.head, h.gen, h.used, h.count, h.slot⟩
theorem QD.less {b : Nat} (h : QD w Q (g.more b) t j sl d) (hk : g.P Q) : QD w Q g t j sl d :=
  ⟨h.jn, h.dk.less rfl (fun _ hp => .inl hp), hk, h.ne, h.four, h.half, h.head, h.gen, h.used, h.count, h.slot⟩
/-- A row of the call's own is kept, beside the journal. -/
theorem QD.row (h : QD w Q g t j sl d) (hb : Below w.heap.size w u) {v : Value} {ls : List (List UInt8)} (ho : IsOwn 9 1 w.heap.size u v ls.length (tcs ls)) :
    ∃ g' : Rg, QD u Q g' t j sl d ∧ TsP u g' Q v ls ∧ (∀ x y, FrQ g' Q x y → FrQ g Q x y) ∧ (∀ x t' j' sl' d', QD x Q g' t' j' sl' d' → QD x Q g t' j' sl' d') := by
  obtain ⟨gg, hg, hr⟩ := ho
  rcases Nat.eq_zero_or_pos ls.length with h0 | h0
  · obtain ⟨a, c, e⟩ := hr.form
    exact ⟨g, h.below hb, ⟨a, c, e, .inl (List.eq_nil_of_length_eq_zero h0)⟩, fun _ _ h => h, fun _ _ _ _ _ h => h⟩
  · obtain ⟨off, cap, e, h2, h3, h4⟩ := hr.cell h0
    obtain ⟨l1, l2, l3, l4, l5⟩ := h.lts
    refine ⟨g.more gg, h.more hb hg h3, ⟨_, _, e, .inr ⟨gg, off, rfl, h3, .inr (.inr rfl), by show gg ≠ g.R; omega, by show gg ≠ g.bl; omega, by show gg ≠ g.bw; omega, by omega, fun j hj => ?_⟩⟩, fun _ _ h => h.less, fun _ _ _ _ _ hh => hh.less h.kept⟩
    rw [h4 j (by rw [tcs_length]; exact hj)]
    simp [tcs]
theorem own_one (w : World) (s : List UInt8) : IsOwn 9 1 w.heap.size (w.alloc (.cells #[.string (Mt.str s)] 9)) (.slice (some ⟨w.heap.size, 0, none⟩) [s].length 1) [s].length (tcs [s]) :=
  ⟨w.heap.size, Nat.le_refl _, rfl, .inr ⟨0, 1, #[.string (Mt.str s)], rfl, heap_alloc_new w _, Nat.le_refl _, Nat.le_refl _, fun j hj => by
    have hj0 : j = 0 := by have : j < 1 := hj; omega
    subst hj0
    simp [tcs]⟩⟩
/-- A row more, behind what was made. -/
theorem own_row {base base2 : Nat} {i : TypeInfo} {z : Value} (hi : Tryz.prog.info? 9 = some i) (hz : i.zero = some z) (hs : i.size = 1) (hby : i.bytes = 16) (hzs : z.cells.size = 1)
    {v : Value} {n m : Nat} {a2 : Option Addr} {c2 : Nat} {xs ys : List (List UInt8)} (hx : n = xs.length) (hy : m = ys.length) (h : IsOwn 9 1 base w v n (tcs xs)) (h2 : IsOwn 9 1 base2 w (.slice a2 m c2) m (tcs ys)) (h0 : 0 < m) (hbase : base ≤ w.heap.size) (hfit : (n + m) * 16 ≤ 140737488355328) :
    ∃ a' c' w', (∀ ty, (Builtin.append_ #[30, 30] ty #[v, .slice a2 m c2]).run Tryz.prog w = .ok (.slice a' (n + m) c') w') ∧ IsOwn 9 1 base w' (.slice a' (n + m) c') (n + m) (tcs (xs ++ ys)) ∧ Below base w w' := by
  subst hx hy
  obtain ⟨g1, hg1, hr⟩ := h
  obtain ⟨g2, hg2, hr2⟩ := h2
  obtain ⟨off, cap, e, h3, h4, h5⟩ := hr2.cell h0
  injection e with e1 e2 e3
  subst e1
  have src : Src Tryz.prog i.size 30 (.slice (some ⟨g2, off, none⟩) ys.length c2) ys.length (tcs ys) w :=
    Src.ofSlice _ Tryz.underlying30 ⟨g2, off, none⟩ ys.length c2 _ (by rw [hs, tcs_length, Nat.mul_one]) (fun j u hu => by
      have hj : j < (tcs ys).length := by
        rcases Nat.lt_or_ge j (tcs ys).length with hh | hh
        · exact hh
        · rw [List.getElem?_eq_none hh] at hu; cases hu
      rw [add_off, h5 j hj]
      rw [List.getElem?_eq_getElem hj] at hu
      exact hu) (tcs_one _)
  obtain ⟨v', w', g', hrun, hrw, hg', ho⟩ := rw_append (T := 30) (tx := 30) Tryz.underlying30 hi hz hs hby hzs hr (tcs_one _) _ ys.length (tcs ys) src hfit (by omega)
  obtain ⟨a', c', rfl⟩ := hrw.form
  refine ⟨a', c', w', hrun, ⟨g', ?_, by rw [tcs_append]; exact hrw⟩, ?_⟩
  · rcases hg' with rfl | rfl
    · exact hg1
    · exact hbase
  · exact ho.toBelow (by simpa using hg1) hbase
end
end Go.Proofs.YtnioagojiipjlaaGreat

/-
  What the statements' own same, and the document's Need, come to.
-/
namespace Go.Proofs.YtnioagojiipjlaaGreat
open Go.RowKit
set_option maxRecDepth 100000 in
theorem rneed_no (n : Int) (w : World) (h : n < 0 ∨ 262144 < n) : Calls Tryz.prog 48 #[.int .i64 n] w fun e w' => e = .returned (.int .i64 0) ∧ w = w' := by
  rcases h with h | h
  · go_enter Tryz.func48, Tryz.ntmps48
    go_wp2_with fail
    go_ret
    exact ⟨rfl, rfl⟩
  · have hd : decide (n < 0) = false := decide_eq_false (by omega)
    go_enter Tryz.func48, Tryz.ntmps48
    go_wp2_with fail
    go_ret
    exact ⟨rfl, rfl⟩
set_option maxRecDepth 100000 in
theorem rneed_yes (n : Nat) (w : World) (h : n ≤ 262144) : Calls Tryz.prog 48 #[.int .i64 n] w fun e w' => e = .returned (.int .i64 (Mt.cellsN n : Int)) ∧ w = w' := by
  have HR := Lib.hid (show (Mt.cellsN n : Int) = ((max 1 ((n + 109) / 110) : Nat) : Int) from rfl)
  generalize (Mt.cellsN n : Int) = r at HR ⊢
  have hd : decide ((n : Int) < 0) = false := decide_eq_false (by omega)
  have hd2 : decide ((262144 : Int) < n) = false := decide_eq_false (by omega)
  by_cases h1 : 0 < n % 110
  · have d1 : decide ((0 : Int) < (n : Int) % 110) = true := decide_eq_true (by omega)
    go_enter Tryz.func48, Tryz.ntmps48
    go_wp2
    all_goals
      go_ret
      exact ⟨Mt.ret_int (by rw [HR.out]; omega), rfl⟩
  · have d1 : decide ((0 : Int) < (n : Int) % 110) = false := decide_eq_false (by omega)
    by_cases h2 : n = 0
    · have d2 : ((n : Int) == 0) = true := by rw [beq_iff_eq]; omega
      have H2 := Lib.hid h2
      clear h2
      go_enter Tryz.func48, Tryz.ntmps48
      go_wp2
      all_goals
        go_ret
        exact ⟨Mt.ret_int (by have := H2.out; rw [HR.out]; omega), rfl⟩
    · have d2 : ((n : Int) == 0) = false := by rw [beq_eq_false_iff_ne]; omega
      have H2 := Lib.hid h2
      clear h2
      go_enter Tryz.func48, Tryz.ntmps48
      go_wp2
      all_goals
        go_ret
        exact ⟨Mt.ret_int (by have := H2.out; rw [HR.out]; omega), rfl⟩

set_option maxRecDepth 100000 in
theorem same6_any {w : World} {v1 v2 : Value} {xs bs : List (List UInt8)} (h1 : IsTs w v1 xs) (h2 : IsTs w v2 bs) (hn : xs.length ≤ 9223372036854775807) (hm : bs.length ≤ 9223372036854775807) :
    Calls Tryz.prog 13 #[v1, v2] w fun e w' => e = .returned (.bool (decide (xs = bs))) ∧ Below w.heap.size w w' := by
  have H1 := Lib.hid (fun u (hb : Below w.heap.size w u) => h1.below hb)
  have H2 := Lib.hid (fun u (hb : Below w.heap.size w u) => h2.below hb)
  obtain ⟨a1, c1, rfl, -⟩ := h1
  obtain ⟨a2, c2, rfl, -⟩ := h2
  by_cases hl : xs.length = bs.length
  · have hd : ((xs.length : Int) == (bs.length : Int)) = true := by rw [beq_iff_eq]; omega
    have he : ((xs.length : Int) != (bs.length : Int)) = false := by rw [bne, hd]; rfl
    obtain ⟨n, hna⟩ : ∃ n, xs.length = n := ⟨_, rfl⟩
    have hnb : bs.length = n := by omega
    have HA := Lib.hid hna
    have HB := Lib.hid hnb
    rw [hna, hnb] at hd he
    rw [hna] at H1 hn
    rw [hnb] at H2
    rw [hna, hnb]
    clear hl hna hnb hm
    go_enter Tryz.func13, Tryz.ntmps13
    go_wp2_with fail
    go_loopw [5, 13] (fun _ i wr => ∃ k : Nat, k ≤ n ∧ i = .int .i64 k ∧ Hid (Below w.heap.size w wr) ∧ Hid (∀ m, m < k → xs[m]? = bs[m]?)) (fun _ i _ => n - (intOf i).toNat)
    case atStart => exact ⟨0, Nat.zero_le _, rfl, Lib.hid (Below.refl _ _), Lib.hid fun m h => by omega⟩
    case round =>
      obtain ⟨k, hk, rfl, HBW, HEQ⟩ := hrel
      by_cases hlt : k < n
      · have hka : k < xs.length := by rw [HA.out]; exact hlt
        have hkb : k < bs.length := by rw [HB.out]; exact hlt
        obtain ⟨x1, y1, e1, HX1⟩ := (H1.out wr HBW.out).open
        obtain ⟨x2, y2, e2, HX2⟩ := (H2.out wr HBW.out).open
        rw [HA.out] at e1
        rw [HB.out] at e2
        obtain ⟨rfl, rfl⟩ : a1 = x1 ∧ c1 = y1 := by cases e1; exact ⟨rfl, rfl⟩
        obtain ⟨rfl, rfl⟩ : a2 = x2 ∧ c2 = y2 := by cases e2; exact ⟨rfl, rfl⟩
        obtain ⟨b1, o1, rfl, -, hc1⟩ := HX1.out k hka
        obtain ⟨b2, o2, rfl, -, hc2⟩ := HX2.out k hkb
        have hki : (k : Int) < (n : Int) := by omega
        have HEA := Lib.hid (List.getElem?_eq_getElem hka)
        have HEB := Lib.hid (List.getElem?_eq_getElem hkb)
        generalize xs[k] = p at *
        generalize bs[k] = q at *
        clear e1 e2 HX1 HX2
        by_cases hpq : p = q
        · have hs : ((Mt.str p).toList == (Mt.str q).toList) = true := by rw [hpq]; simp
          have hs2 : ((Mt.str p).toList != (Mt.str q).toList) = false := by rw [bne, hs]; rfl
          have HPQ := Lib.hid hpq
          clear hpq
          generalize Mt.str p = P at *
          generalize Mt.str q = Q at *
          go_wp2_with fail
          go_quiet (fail)
          go_wp2_with fail
          go_roundw
          case rel =>
            refine ⟨k + 1, by omega, by go_num, Lib.hid (HBW.out.trans ⟨rfl, rfl, rfl, Nat.le_refl _, fun _ _ => rfl⟩), Lib.hid fun m hm2 => ?_⟩
            by_cases e : m = k
            · subst e; rw [HEA.out, HEB.out, HPQ.out]
            · exact HEQ.out m (by omega)
          case measure => simp [intOf]; omega
        · have hs : ((Mt.str p).toList == (Mt.str q).toList) = false := by
            rw [beq_eq_false_iff_ne]
            intro e
            rw [ByteArray.toList_eq, ByteArray.toList_eq] at e
            exact hpq e
          have hs2 : ((Mt.str p).toList != (Mt.str q).toList) = true := by rw [bne, hs]; rfl
          have HPQ := Lib.hid hpq
          clear hpq
          generalize Mt.str p = P at *
          generalize Mt.str q = Q at *
          go_wp2_with fail
          go_quiet (fail)
          go_wp2_with fail
          go_ret
          refine ⟨Mt.ret_bool ?_, HBW.out.trans ⟨rfl, rfl, rfl, Nat.le_refl _, fun _ _ => rfl⟩⟩
          rw [decide_eq_false]
          intro e
          have h3 := HEA.out
          rw [e, HEB.out] at h3
          exact HPQ.out (Option.some.inj h3).symm
      · obtain rfl : k = n := by omega
        go_wp2_with fail
        go_ret
        refine ⟨Mt.ret_bool ?_, HBW.out⟩
        rw [decide_eq_true]
        apply List.ext_getElem?
        intro m
        by_cases h : m < k
        · exact HEQ.out m h
        · rw [List.getElem?_eq_none (by rw [HA.out]; omega), List.getElem?_eq_none (by rw [HB.out]; omega)]
  · have hd : ((xs.length : Int) == (bs.length : Int)) = false := by rw [beq_eq_false_iff_ne]; omega
    have he : ((xs.length : Int) != (bs.length : Int)) = true := by rw [bne, hd]; rfl
    have HL := Lib.hid hl
    clear hl
    go_enter Tryz.func13, Tryz.ntmps13
    go_wp2_with fail
    go_ret
    exact ⟨Mt.ret_bool (by rw [decide_eq_false]; intro e; exact HL.out (by rw [e])), Below.refl _ _⟩
end Go.Proofs.YtnioagojiipjlaaGreat

/-
  The document's Cells: the sectors of a record.
-/
namespace Go.Proofs.YtnioagojiipjlaaGreat
open Go.RowKit Go.Maps
theorem Mt.ext_min (l : List UInt8) (a E : Nat) (h : a ≤ l.length) (hE : E = min l.length (a + 110)) : (Mt.str l).extract a E = Mt.str ((l.drop a).take 110) := by
  have h1 : E = a + (E - a) := by omega
  rw [h1, Mt.ext_list]
  show Mt.str ((l.drop a).take (E - a)) = _
  congr 1
  by_cases hc : a + 110 ≤ l.length
  · rw [show E - a = 110 by omega]
  · rw [List.take_of_length_le (by rw [List.length_drop]; omega), List.take_of_length_le (by rw [List.length_drop]; omega)]
/-- The first sectors of a record. -/
def Mt.secsTo (gen number : Nat) (b : List UInt8) (k : Nat) : List (List UInt8) := (List.range k).map fun i => (Mt.cellAt gen number b i).sector
theorem Mt.secsTo_succ (gen number : Nat) (b : List UInt8) (k : Nat) : Mt.secsTo gen number b (k + 1) = Mt.secsTo gen number b k ++ [(Mt.cellAt gen number b k).sector] := by
  unfold Mt.secsTo; rw [List.range_succ, List.map_append]; rfl
theorem Mt.secsTo_length (gen number : Nat) (b : List UInt8) (k : Nat) : (Mt.secsTo gen number b k).length = k := by
  unfold Mt.secsTo; rw [List.length_map, List.length_range]
theorem Mt.secsTo_all (gen number : Nat) (b : List UInt8) : Mt.secsTo gen number b (Mt.cellsN b.length) = Mt.secsOf gen number b := rfl
section
variable {w : World}
set_option maxRecDepth 100000 in
set_option maxHeartbeats 1000000 in
theorem rcells_any (gen seq : Nat) (b : List UInt8) (hg : gen < 4294967296) (hs : seq < 4294967296) (hb : b.length ≤ 262144) :
    Calls Tryz.prog 50 #[.int .i64 (gen : Int), .int .i64 (seq : Int), .string (Mt.str b)] w fun e w' => ∃ a c, e = .returned (.slice a (Mt.secsOf gen seq b).length c) ∧ IsOwn 9 1 w.heap.size w' (.slice a (Mt.secsOf gen seq b).length c) (Mt.secsOf gen seq b).length (tcs (Mt.secsOf gen seq b)) ∧ Below w.heap.size w w' := by
  obtain ⟨i0, hi, hz0, hz1, hz2⟩ := info_parts Tryz.infoStr6
  have HI := Lib.hid (And.intro hi (And.intro hz0 (And.intro hz1 hz2)))
  have HND := Lib.hid (fun u => rneed_yes b.length u hb)
  have hsz : (Mt.str b).size = b.length := Mt.str_size b
  have hN : Mt.cellsN b.length ≤ 2384 := by unfold Mt.cellsN; omega
  have hNb : ∀ k, k < Mt.cellsN b.length → 110 * k ≤ b.length := fun k hk => by unfold Mt.cellsN at hk; omega
  have HSE := Lib.hid (fun (k : Nat) (hk : k < Mt.cellsN b.length) (u : World) => rsector_any (Mt.cellAt gen seq b k) ⟨hg, hs, by show k < 65536; omega, by show Mt.cellsN b.length < 65536; omega, by show ((b.drop (110 * k)).take 110).length ≤ 110; rw [List.length_take]; omega⟩ u)
  have HSO := Lib.hid (show Mt.secsTo gen seq b (Mt.cellsN b.length) = Mt.secsOf gen seq b from Mt.secsTo_all gen seq b)
  have HEX := Lib.hid (fun k E hk hE => Mt.ext_min b (110 * k) E (hNb k hk) hE)
  have HNB := Lib.hid hNb
  obtain ⟨n, hnn⟩ : ∃ n, Mt.cellsN b.length = n := ⟨_, rfl⟩
  have HNE := Lib.hid hnn
  rw [hnn] at HND hN hNb HSE HSO HEX HNB
  clear hnn
  have HR0 : Hid (IsOwn 9 1 w.heap.size w (.slice none 0 0) (Mt.secsTo gen seq b 0).length (tcs (Mt.secsTo gen seq b 0)) ∧ Below w.heap.size w w) := Lib.hid ⟨IsOwn.nil _ _ _ _, Below.refl _ _⟩
  have HN := Lib.hid hN
  have HSZ := Lib.hid hsz
  have HBL := Lib.hid hb
  have hszi : ((Mt.str b).size : Int) = (b.length : Int) := by rw [hsz]
  clear hi hz0 hz1 hz2 hg hs hN hNb hsz hb
  go_enter Tryz.func50, Tryz.ntmps50
  go_wp2_with fail
  refine (HND.out _).mono ?_
  rintro e w1 ⟨rfl, rfl⟩
  go_wp2_with fail
  go_loopw [7, 9, 10] (fun vo iv _ wr => ∃ (k : Nat) (a : Option Addr) (c : Nat), k ≤ n ∧ iv = .int .i64 (k : Int) ∧ vo = .slice a k c ∧ Hid (IsOwn 9 1 w.heap.size wr (.slice a k c) k (tcs (Mt.secsTo gen seq b k)) ∧ Below w.heap.size w wr)) (fun _ iv _ _ => n - (intOf iv).toNat)
  case atStart => exact ⟨0, none, 0, Nat.zero_le _, rfl, rfl, HR0⟩
  case round =>
    obtain ⟨k, a, c, hk, rfl, rfl, HRA⟩ := hrel
    by_cases hlt : k < n
    · have hn := HN.out
      have hkb := HNB.out k hlt
      have hbl := HBL.out
      obtain ⟨E, hE⟩ : ∃ E, min b.length (110 * k + 110) = E := ⟨_, rfl⟩
      have hE2 : E ≤ b.length ∧ 110 * k ≤ E := by omega
      have HX := Lib.hid (HEX.out k E hlt hE.symm)
      have HS1 := Lib.hid (HSE.out k hlt)
      unfold Mt.cellAt rclV at HS1
      rw [HNE.out] at HS1
      simp only at HS1
      have d1 : decide ((k : Int) < (n : Int)) = true := decide_eq_true (by omega)
      have d2 : decide (k < n) = true := decide_eq_true hlt
      have m1 : min (b.length : Int) (110 * (k : Int) + 110) = (E : Int) := by omega
      have m2 : wrap64 (110 * (k : Int)) = 110 * (k : Int) := by simp only [wrap64]; omega
      have m3 : wrap64 (110 * (k : Int) + 110) = 110 * (k : Int) + 110 := by simp only [wrap64]; omega
      have e0 : (0 : Int) ≤ 110 * (k : Int) := by omega
      have e1 : 110 * (k : Int) ≤ (E : Int) := by omega
      have e2 : (E : Int) ≤ ((Mt.str b).size : Int) := by rw [hszi]; omega
      have e3 : (110 * (k : Int)).toNat = 110 * k := by omega
      have hk2 : (k : Int) ≤ 2384 := by omega
      clear hkb hn hbl hE hE2
      go_wp2_with fail
      rw [HX.out]
      with_reducible refine (HS1.out _).mono ?_
      rintro e w2 ⟨rfl, hb2⟩
      have hown2 := HRA.out.1.below hb2
      have HB2 := Lib.hid (HRA.out.2.trans (hb2.mono HRA.out.2.size))
      clear hb2
      obtain ⟨a3, c3, w3, hrun, hown, hb3⟩ := own_push (T := 30) (tx := 30) Tryz.underlying30 Tryz.underlying30 HI.out.1 HI.out.2.1 HI.out.2.2.1 HI.out.2.2.2 rfl hown2 HB2.out.size (tcs_one _) #[.string (Mt.str (Mt.cellAt gen seq b k).sector)] rfl (by simp [Value.oneCell']) (by have := HN.out; omega) (by have := HN.out; omega)
      have HO3 := Lib.hid hown
      have HB3 := Lib.hid hb3
      clear hown hb3 hown2
      unfold Mt.cellAt at hrun
      rw [HNE.out] at hrun
      go_wp2_with (refine wpList_append_run rfl _ _ 30 30 rfl _ _ rfl rfl hrun ?_)
      go_roundw
      case rel => exact ⟨k + 1, a3, c3, by omega, by go_num, rfl, Lib.hid ⟨by rw [Mt.secsTo_succ, tcs_append]; exact HO3.out, HB2.out.trans HB3.out⟩⟩
      case measure => simp [intOf]; omega
    · obtain rfl : k = n := by omega
      have d1 : decide ((k : Int) < (k : Int)) = false := decide_eq_false (by omega)
      have d2 : decide (k < k) = false := decide_eq_false (by omega)
      clear hlt
      go_wp2_with fail
      go_ret
      rw [← HSO.out, Mt.secsTo_length]
      exact ⟨a, c, rfl, HRA.out.1, HRA.out.2⟩
end
end Go.Proofs.YtnioagojiipjlaaGreat
