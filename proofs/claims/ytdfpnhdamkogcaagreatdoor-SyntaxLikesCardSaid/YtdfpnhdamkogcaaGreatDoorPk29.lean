/-
  Some texts of one proof, one behind the other.
-/
import Derived.Test.YtdfpnhdamkogcaaGreatDoorPk25
import Derived.Test.YtdfpnhdamkogcaaGreatDoorPk28
set_option linter.unusedVariables false
set_option linter.unusedSimpArgs false

/-
  Order and Like; the chapter's examples.
-/
namespace Go.Proofs.YtdfpnhdamkogcaaGreatDoor
open Go.RowKit Go.Lib

theorem cmp64_any (m n : Int) (w : World) : Calls Tryz.prog 27 #[.int .i64 m, .int .i64 n] w fun e w' => e = .returned (.int .i64 (if m < n then -1 else if n < m then 1 else 0)) ∧ w = w' := by
  by_cases h1 : m < n
  · rw [if_pos h1]
    have d1 : decide (m < n) = true := decide_eq_true h1
    have d2 : (m != m) = false := by simp
    have d3 : (n != n) = false := by simp
    go_enter Tryz.func27, Tryz.ntmps27
    go_wp2
    all_goals (go_ret; exact ⟨rfl, rfl⟩)
  · by_cases h2 : n < m
    · rw [if_neg h1, if_pos h2]
      have d1 : decide (m < n) = false := decide_eq_false h1
      have d2 : (m != m) = false := by simp
      have d3 : (n != n) = false := by simp
      have d4 : decide (n < m) = true := decide_eq_true h2
      go_enter Tryz.func27, Tryz.ntmps27
      go_wp2
      all_goals (go_ret; exact ⟨rfl, rfl⟩)
    · rw [if_neg h1, if_neg h2]
      have d1 : decide (m < n) = false := decide_eq_false h1
      have d2 : (m != m) = false := by simp
      have d3 : (n != n) = false := by simp
      have d4 : decide (n < m) = false := decide_eq_false h2
      go_enter Tryz.func27, Tryz.ntmps27
      go_wp2
      all_goals (go_ret; exact ⟨rfl, rfl⟩)

theorem Mt.norm4 {l x : List UInt8} (h : Mt.normS 4 l = some x) : x = l ∧ l.length ≤ 4096 ∧ ∃ n, Mt.numV l = some n := by
  unfold Mt.normS at h
  split at h
  · cases h
  · rename_i hl
    rw [if_neg (by decide)] at h
    split at h
    · cases h
    · rename_i hv
      rw [if_neg (by decide)] at h
      injection h with h
      have : Mt.validS 4 l = (Mt.numV l).isSome := rfl
      rw [this] at hv
      exact ⟨h.symm, by omega, Option.isSome_iff_exists.1 ((Bool.not_eq_false _).mp hv)⟩
def orderV (o : Int × Bool) : Value := .tuple #[.int .i64 o.1, .bool o.2]
theorem Mt.orderS_none1 {syn : Int} {a b : List UInt8} (h : Mt.normS syn a = none) : Mt.orderS syn a b = (0, false) := by unfold Mt.orderS; rw [h]
theorem Mt.orderS_none2 {syn : Int} {a b : List UInt8} (h : Mt.normS syn b = none) : Mt.orderS syn a b = (0, false) := by
  unfold Mt.orderS; rw [h]
  cases Mt.normS syn a <;> rfl
theorem Mt.orderS_some {syn : Int} {a b x y : List UInt8} (h : Mt.normS syn a = some x) (h2 : Mt.normS syn b = some y) : Mt.orderS syn a b = if syn = 1 ∨ syn = 2 ∨ syn = 3 ∨ syn = 8 then (compareBytes x y, true)
    else if syn = 4 then (if (Mt.numV x).getD 0 < (Mt.numV y).getD 0 then -1 else if (Mt.numV y).getD 0 < (Mt.numV x).getD 0 then 1 else 0, true)
    else (0, false) := by unfold Mt.orderS; rw [h, h2]
set_option maxRecDepth 100000 in
theorem order12_any (syn : Int) (a b : ByteArray) (ha : a.size ≤ 140737488351232) (hb : b.size ≤ 140737488351232) (w : World) (hL : LaidY w) : Calls Tryz.prog 12 #[.int .i64 syn, .string a, .string b] w fun e w' => e = .returned (orderV (Mt.orderS syn a.data.toList b.data.toList)) ∧ Below w.heap.size w w' := by
  have H1 := Lib.hid (norm12_any syn a ha w hL)
  have H2 := Lib.hid (fun u (hu : Below w.heap.size w u) => norm12_any syn b hb u (hL.below hu))
  have HL := Lib.hid (fun u (hu : Below w.heap.size w u) => hL.below hu)
  unfold normV at H1 H2
  cases h1 : Mt.normS syn a.data.toList with
  | none =>
    rw [Mt.orderS_none1 h1]
    rw [h1] at H1
    generalize Mt.normS syn b.data.toList = ob at *
    clear h1 ha hb
    go_enter Tryz.func12, Tryz.ntmps12
    go_wp2_with fail
    refine (H1.out).mono ?_
    rintro e w1 ⟨rfl, hb⟩
    have HB1 := Lib.hid hb
    have H3 := Lib.hid (H2.out w1 hb)
    clear hb H1 H2
    go_wp2_with fail
    refine (H3.out).mono ?_
    rintro e w2 ⟨rfl, hb⟩
    have HB2 := Lib.hid (HB1.out.trans (hb.mono HB1.out.size))
    clear hb
    go_wp2_with fail
    go_ret2
    exact ⟨rfl, HB2.out⟩
  | some x =>
    cases h2 : Mt.normS syn b.data.toList with
    | none =>
      rw [Mt.orderS_none2 h2]
      rw [h1] at H1
      rw [h2] at H2
      clear h1 h2 ha hb
      go_enter Tryz.func12, Tryz.ntmps12
      go_wp2_with fail
      refine (H1.out).mono ?_
      rintro e w1 ⟨rfl, hb⟩
      have HB1 := Lib.hid hb
      have H3 := Lib.hid (H2.out w1 hb)
      clear hb H1 H2
      go_wp2_with fail
      refine (H3.out).mono ?_
      rintro e w2 ⟨rfl, hb⟩
      have HB2 := Lib.hid (HB1.out.trans (hb.mono HB1.out.size))
      clear hb
      go_wp2_with fail
      go_ret2
      exact ⟨rfl, HB2.out⟩
    | some y =>
      rw [Mt.orderS_some h1 h2]
      rw [h1] at H1
      rw [h2] at H2
      have ex : Mt.optT (some x) = x := rfl
      have ey : Mt.optT (some y) = y := rfl
      rw [ex] at H1
      rw [ey] at H2
      by_cases hc : syn = 1 ∨ syn = 2 ∨ syn = 3 ∨ syn = 8
      · rw [if_pos hc]
        have HC := Lib.hid (fun u => sy_compare (Mt.str x) (Mt.str y) u)
        rw [Mt.str_data, Mt.str_data] at HC
        generalize compareBytes x y = c at *
        clear h1 h2 ha hb ex ey
        rcases hc with rfl | rfl | rfl | rfl
        all_goals
          go_enter Tryz.func12, Tryz.ntmps12
          go_wp2_with fail
          refine (H1.out).mono ?_
          rintro e w1 ⟨rfl, hb⟩
          have HB1 := Lib.hid hb
          have H3 := Lib.hid (H2.out w1 hb)
          clear hb H1 H2
          go_wp2_with fail
          refine (H3.out).mono ?_
          rintro e w2 ⟨rfl, hb⟩
          have HB2 := Lib.hid (HB1.out.trans (hb.mono HB1.out.size))
          clear hb H3
          go_wp2_with fail
          refine (HC.out _).mono ?_
          rintro e w3 ⟨rfl, rfl⟩
          go_wp2_with fail
          go_ret2
          exact ⟨rfl, HB2.out⟩
      · rw [if_neg hc]
        by_cases h4 : syn = 4
        · subst h4
          rw [if_pos rfl]
          obtain ⟨rfl, l1, m, hm⟩ := Mt.norm4 h1
          obtain ⟨rfl, l2, n, hn⟩ := Mt.norm4 h2
          have s1 : (Mt.str a.data.toList) = a := rfl
          have s2 : (Mt.str b.data.toList) = b := rfl
          have z1 : a.data.toList.length = a.size := rfl
          have z2 : b.data.toList.length = b.size := rfl
          rw [s1] at H1
          rw [s2] at H2
          have HN1 := Lib.hid (fun u (hu : Below w.heap.size w u) => number_any a (by omega) u (HL.out u hu))
          have HN2 := Lib.hid (fun u (hu : Below w.heap.size w u) => number_any b (by omega) u (HL.out u hu))
          unfold NumP at HN1 HN2
          rw [hm] at HN1
          rw [hn] at HN2
          rw [hm, hn]
          have HC := Lib.hid (fun u => cmp64_any m n u)
          simp only [Option.getD_some]
          generalize (if m < n then (-1 : Int) else if n < m then 1 else 0) = c at *
          clear h1 h2 ha hb ex ey hm hn l1 l2 s1 s2 z1 z2 hc
          go_enter Tryz.func12, Tryz.ntmps12
          go_wp2_with fail
          refine (H1.out).mono ?_
          rintro e w1 ⟨rfl, hb⟩
          have HB1 := Lib.hid hb
          have H3 := Lib.hid (H2.out w1 hb)
          clear hb H1 H2
          go_wp2_with fail
          refine (H3.out).mono ?_
          rintro e w2 ⟨rfl, hb⟩
          have HB2 := Lib.hid (HB1.out.trans (hb.mono HB1.out.size))
          clear hb H3
          have H4 := Lib.hid (HN1.out w2 HB2.out)
          go_wp2_with fail
          refine (H4.out).mono ?_
          rintro e w3 ⟨m', rfl, hm', hb⟩
          obtain rfl := hm' m rfl
          have HB3 := Lib.hid (HB2.out.trans (hb.mono HB2.out.size))
          clear hb H4 hm'
          have H5 := Lib.hid (HN2.out w3 HB3.out)
          go_wp2_with fail
          refine (H5.out).mono ?_
          rintro e w4 ⟨n', rfl, hn', hb⟩
          obtain rfl := hn' n rfl
          have HB4 := Lib.hid (HB3.out.trans (hb.mono HB3.out.size))
          clear hb H5 hn'
          go_wp2_with fail
          refine (HC.out _).mono ?_
          rintro e w5 ⟨rfl, rfl⟩
          go_wp2_with fail
          go_ret2
          exact ⟨rfl, HB4.out⟩
        · rw [if_neg h4]
          have n1 : (syn == 1) = false := beq_eq_false_iff_ne.2 (by omega)
          have n2 : (syn == 2) = false := beq_eq_false_iff_ne.2 (by omega)
          have n3 : (syn == 3) = false := beq_eq_false_iff_ne.2 (by omega)
          have n4 : (syn == 4) = false := beq_eq_false_iff_ne.2 h4
          have n8 : (syn == 8) = false := beq_eq_false_iff_ne.2 (by omega)
          clear h1 h2 ha hb ex ey hc h4
          go_enter Tryz.func12, Tryz.ntmps12
          go_wp2_with fail
          refine (H1.out).mono ?_
          rintro e w1 ⟨rfl, hb⟩
          have HB1 := Lib.hid hb
          have H3 := Lib.hid (H2.out w1 hb)
          clear hb H1 H2
          go_wp2_with fail
          refine (H3.out).mono ?_
          rintro e w2 ⟨rfl, hb⟩
          have HB2 := Lib.hid (HB1.out.trans (hb.mono HB1.out.size))
          clear hb H3
          go_wp2_with fail
          go_ret2
          exact ⟨rfl, HB2.out⟩
def likeV (o : Bool × Bool) : Value := .tuple #[.bool o.1, .bool o.2]
theorem Mt.prep_le (l : List UInt8) : (Mt.prep l).length ≤ l.length := by
  have hrun : ∀ (l o : List UInt8), (l.foldl Mt.step o).length ≤ o.length + l.length := by
    intro l
    induction l with
    | nil => intro o; simp
    | cons c r ih =>
      intro o
      rw [List.foldl_cons, List.length_cons]
      have := ih (Mt.step o c)
      have h2 : (Mt.step o c).length ≤ o.length + 1 := by unfold Mt.step; split <;> simp
      omega
  have h := hrun l []
  unfold Mt.prep Mt.run
  split
  · rw [List.length_dropLast]; simp at h; omega
  · simpa using h
theorem Mt.normS_len {syn : Int} {l x : List UInt8} (h6 : syn ≠ 6) (h : Mt.normS syn l = some x) : x.length ≤ 4096 := by
  unfold Mt.normS at h
  split at h
  · cases h
  · rename_i hl
    try rw [if_neg h6] at h
    split at h
    · cases h
    · split at h
      · injection h with h
        subst h
        have := Mt.prep_le l
        omega
      · injection h with h
        subst h
        omega
set_option maxRecDepth 100000 in
theorem like12_any (syn : Int) (s : ByteArray) (hs : s.size ≤ 140737488351232) {w : World} {v : Value} {ps : List Mt.Pc} (h : IsPcs w v ps) (hn : ps.length ≤ 9223372036854775807) (ht : ∀ p ∈ ps, p.2.length ≤ 140737488351232) (hL : LaidY w) : Calls Tryz.prog 14 #[.int .i64 syn, .string s, v] w fun e w' => e = .returned (likeV (Mt.likeS syn s.data.toList ps)) ∧ Below w.heap.size w w' := by
  have H1 := Lib.hid (norm12_any syn s hs w hL)
  unfold normV at H1
  have HS := Lib.hid (fun u (hu : Below w.heap.size w u) => sound12_any (h.below hu) hn)
  obtain ⟨a, cap, hv, -⟩ := id h
  cases h1 : Mt.normS syn s.data.toList with
  | none =>
    have e : Mt.likeS syn s.data.toList ps = (false, false) := by unfold Mt.likeS; rw [h1]
    rw [e]
    rw [h1] at H1
    subst hv
    clear h1 e h hn ht hs
    go_enter Tryz.func14, Tryz.ntmps14
    go_wp2_with fail
    refine (H1.out).mono ?_
    rintro e w1 ⟨rfl, hb⟩
    have HB1 := Lib.hid hb
    clear hb H1
    go_wp2_with fail
    go_ret2
    exact ⟨rfl, HB1.out⟩
  | some x =>
    have e : Mt.likeS syn s.data.toList ps = if Mt.soundB ps then (if syn = 1 ∨ syn = 3 then (Mt.hasPs Mt.foldL x ps, true) else if syn = 2 then (Mt.hasPs id x ps, true) else (false, false)) else (false, false) := by unfold Mt.likeS; rw [h1]
    rw [e]
    rw [h1] at H1
    have ex : Mt.optT (some x) = x := rfl
    rw [ex] at H1
    have HF := Lib.hid (fun u (hu : Below w.heap.size w u) (hx : x.length ≤ 4096) => has_fold (h.below hu) hn ht x (by omega) (hL.below hu))
    have HI := Lib.hid (fun u (hu : Below w.heap.size w u) (hx : x.length ≤ 4096) => has_id (h.below hu) hn ht x (by omega) (hL.below hu))
    have HX := Lib.hid (fun (h6 : syn ≠ 6) => Mt.normS_len h6 h1)
    cases hso : Mt.soundB ps with
    | false =>
      rw [hso] at HS
      simp only [Bool.false_eq_true, if_false]
      subst hv
      clear h1 e h hn ht hs hso ex HF HI HX
      go_enter Tryz.func14, Tryz.ntmps14
      go_wp2_with fail
      refine (H1.out).mono ?_
      rintro e w1 ⟨rfl, hb⟩
      have HB1 := Lib.hid hb
      have H3 := Lib.hid (HS.out w1 hb)
      clear hb H1 HS
      go_wp2_with fail
      refine (H3.out).mono ?_
      rintro e w2 ⟨rfl, hb⟩
      have HB2 := Lib.hid (HB1.out.trans (hb.mono HB1.out.size))
      clear hb H3
      go_wp2_with fail
      go_ret2
      exact ⟨rfl, HB2.out⟩
    | true =>
      rw [hso] at HS
      simp only [if_true]
      subst hv
      by_cases h13 : syn = 1 ∨ syn = 3
      · rw [if_pos h13]
        have HXL := Lib.hid (HX.out (by omega))
        clear h1 e h hn ht hs hso ex HI HX
        rcases h13 with rfl | rfl
        all_goals
          go_enter Tryz.func14, Tryz.ntmps14
          go_wp2_with fail
          refine (H1.out).mono ?_
          rintro e w1 ⟨rfl, hb⟩
          have HB1 := Lib.hid hb
          have H3 := Lib.hid (HS.out w1 hb)
          clear hb H1 HS
          go_wp2_with fail
          refine (H3.out).mono ?_
          rintro e w2 ⟨rfl, hb⟩
          have HB2 := Lib.hid (HB1.out.trans (hb.mono HB1.out.size))
          clear hb H3
          have H4 := Lib.hid (HF.out w2 HB2.out HXL.out)
          go_wp2_with fail
          refine (H4.out).mono ?_
          rintro e w3 ⟨rfl, hb⟩
          have HB3 := Lib.hid (HB2.out.trans (hb.mono HB2.out.size))
          clear hb H4
          go_wp2_with fail
          go_ret2
          exact ⟨rfl, HB3.out⟩
      · rw [if_neg h13]
        by_cases h2 : syn = 2
        · subst h2
          rw [if_pos rfl]
          have HXL := Lib.hid (HX.out (by omega))
          clear h1 e h hn ht hs hso ex HF HX h13
          go_enter Tryz.func14, Tryz.ntmps14
          go_wp2_with fail
          refine (H1.out).mono ?_
          rintro e w1 ⟨rfl, hb⟩
          have HB1 := Lib.hid hb
          have H3 := Lib.hid (HS.out w1 hb)
          clear hb H1 HS
          go_wp2_with fail
          refine (H3.out).mono ?_
          rintro e w2 ⟨rfl, hb⟩
          have HB2 := Lib.hid (HB1.out.trans (hb.mono HB1.out.size))
          clear hb H3
          have H4 := Lib.hid (HI.out w2 HB2.out HXL.out)
          go_wp2_with fail
          refine (H4.out).mono ?_
          rintro e w3 ⟨rfl, hb⟩
          have HB3 := Lib.hid (HB2.out.trans (hb.mono HB2.out.size))
          clear hb H4
          go_wp2_with fail
          go_ret2
          exact ⟨rfl, HB3.out⟩
        · rw [if_neg h2]
          have n1 : (syn == 1) = false := beq_eq_false_iff_ne.2 (by omega)
          have n2 : (syn == 2) = false := beq_eq_false_iff_ne.2 (by omega)
          have n3 : (syn == 3) = false := beq_eq_false_iff_ne.2 (by omega)
          clear h1 e h hn ht hs hso ex HF HI HX h13 h2
          go_enter Tryz.func14, Tryz.ntmps14
          go_wp2_with fail
          refine (H1.out).mono ?_
          rintro e w1 ⟨rfl, hb⟩
          have HB1 := Lib.hid hb
          have H3 := Lib.hid (HS.out w1 hb)
          clear hb H1 HS
          go_wp2_with fail
          refine (H3.out).mono ?_
          rintro e w2 ⟨rfl, hb⟩
          have HB2 := Lib.hid (HB1.out.trans (hb.mono HB1.out.size))
          clear hb H3
          go_wp2_with fail
          go_ret2
          exact ⟨rfl, HB2.out⟩

/-! ### the chapter's examples -/
theorem Mt.v1 : Mt.numV [49, 48] = some 10 := (Mt.numV_iff _ _).2 ⟨⟨by decide, by decide⟩, by
  unfold itoa
  rw [if_neg (by decide)]
  exact decDigits_two (by decide) (by decide)⟩
theorem Mt.v2 : Mt.numV [57] = some 9 := (Mt.numV_iff _ _).2 ⟨⟨by decide, by decide⟩, by
  unfold itoa
  rw [if_neg (by decide)]
  exact decDigits_one (by decide)⟩
theorem Mt.exN : Mt.normS 1 [32, 65, 32, 32, 98] = some [97, 32, 98] := by decide +kernel
theorem Mt.exO : Mt.orderS 4 [49, 48] [57] = (1, true) := by
  have h1 : Mt.normS 4 [49, 48] = some [49, 48] := by
    unfold Mt.normS
    rw [if_neg (by decide), if_neg (by decide), if_neg (by show ¬ (Mt.numV [49, 48]).isSome = false; rw [Mt.v1]; decide), if_neg (by decide)]
  have h2 : Mt.normS 4 [57] = some [57] := by
    unfold Mt.normS
    rw [if_neg (by decide), if_neg (by decide), if_neg (by show ¬ (Mt.numV [57]).isSome = false; rw [Mt.v2]; decide), if_neg (by decide)]
  rw [Mt.orderS_some h1 h2, if_neg (by decide), if_pos rfl, Mt.v1, Mt.v2]
  decide
theorem Mt.exT : Mt.orderS 1 [49, 48] [57] = (-1, true) := by decide +kernel
theorem Mt.exL : Mt.likeS 1 [65, 98, 99, 97, 98] [(0, [65]), (2, [66])] = (true, true) := by decide +kernel
set_option maxRecDepth 100000 in
theorem awake12_any (w : World) (hL : LaidY w) : Calls Tryz.prog 9 #[] w fun e w' => e = .returned (.bool true) ∧ Below w.heap.size w w' := by
  have HL := Lib.hid (fun u (hu : Below w.heap.size w u) => hL.below hu)
  have H1 := Lib.hid (norm12_any 1 ⟨#[32, 65, 32, 32, 98]⟩ (by decide) w hL)
  have H2 := Lib.hid (fun u (hu : Below w.heap.size w u) => order12_any 4 ⟨#[49, 48]⟩ ⟨#[57]⟩ (by decide) (by decide) u (HL.out u hu))
  have H3 := Lib.hid (fun u (hu : Below w.heap.size w u) => order12_any 1 ⟨#[49, 48]⟩ ⟨#[57]⟩ (by decide) (by decide) u (HL.out u hu))
  have H4 := Lib.hid (fun u v (hu : Below w.heap.size w u) (hp : IsPcs u v [(0, [65]), (2, [66])]) => like12_any 1 ⟨#[65, 98, 99, 97, 98]⟩ (by decide) hp (by decide) (by decide) (HL.out u hu))
  rw [show Mt.normS 1 (⟨#[32, 65, 32, 32, 98]⟩ : ByteArray).data.toList = some [97, 32, 98] from Mt.exN] at H1
  rw [show Mt.orderS 4 (⟨#[49, 48]⟩ : ByteArray).data.toList (⟨#[57]⟩ : ByteArray).data.toList = (1, true) from Mt.exO] at H2
  rw [show Mt.orderS 1 (⟨#[49, 48]⟩ : ByteArray).data.toList (⟨#[57]⟩ : ByteArray).data.toList = (-1, true) from Mt.exT] at H3
  rw [show Mt.likeS 1 (⟨#[65, 98, 99, 97, 98]⟩ : ByteArray).data.toList [(0, [65]), (2, [66])] = (true, true) from Mt.exL] at H4
  have e1 : normV (some [97, 32, 98]) = .tuple #[.string ⟨#[97, 32, 98]⟩, .bool true] := rfl
  rw [e1] at H1
  clear e1 hL
  unfold orderV at H2 H3
  unfold likeV at H4
  dsimp only at H2 H3 H4
  go_enter Tryz.func9, Tryz.ntmps9
  go_wp2_with fail
  refine (H1.out).mono ?_
  rintro e w1 ⟨rfl, hb⟩
  have HB1 := Lib.hid hb
  have H5 := Lib.hid (H2.out w1 hb)
  clear hb H1 H2
  go_wp2_with fail
  refine (H5.out).mono ?_
  rintro e w2 ⟨rfl, hb⟩
  have HB2 := Lib.hid (HB1.out.trans (hb.mono HB1.out.size))
  have H6 := Lib.hid (H3.out w2 HB2.out)
  clear hb H5 H3
  go_wp2_with fail
  refine (H6.out).mono ?_
  rintro e w3 ⟨rfl, hb⟩
  have HB3 := Lib.hid (HB2.out.trans (hb.mono HB2.out.size))
  clear hb H6
  go_wp2_with fail
  have HB4 := Lib.hid (HB3.out.trans (((Below.refl w3.heap.size w3).alloc (Nat.le_refl _) (.cells #[.int .i64 0, .string ⟨#[65]⟩, .int .i64 2, .string ⟨#[66]⟩] 38)).mono HB3.out.size))
  have HPC : IsPcs (w3.alloc (.cells #[.int .i64 0, .string ⟨#[65]⟩, .int .i64 2, .string ⟨#[66]⟩] 38)) (.slice (some ⟨w3.heap.size, 0, none⟩) 2 2) [(0, [65]), (2, [66])] := by
    have hrow := heap_alloc_new w3 (.cells #[.int .i64 0, .string ⟨#[65]⟩, .int .i64 2, .string ⟨#[66]⟩] 38)
    refine ⟨_, 2, rfl, Lib.hid fun j hj => ⟨_, 0, rfl, by simp, ?_⟩⟩
    match j, hj with
    | 0, _ => exact ⟨by rw [cell_of_row _ _ _ _ _ _ hrow]; rfl, by rw [cell_of_row _ _ _ _ _ _ hrow]; rfl⟩
    | 1, _ => exact ⟨by rw [cell_of_row _ _ _ _ _ _ hrow]; rfl, by rw [cell_of_row _ _ _ _ _ _ hrow]; rfl⟩
  refine (H4.out _ _ HB4.out HPC).mono ?_
  rintro e w5 ⟨rfl, hb⟩
  have HB5 := Lib.hid (HB4.out.trans (hb.mono HB4.out.size))
  clear hb HPC H4
  go_wp2_with fail
  go_ret
  exact ⟨rfl, HB5.out⟩
end Go.Proofs.YtdfpnhdamkogcaaGreatDoor
