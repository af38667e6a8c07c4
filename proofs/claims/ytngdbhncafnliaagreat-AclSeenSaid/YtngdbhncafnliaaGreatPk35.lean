/-
  Some texts of one proof, one behind the other.
-/
import Derived.Test.YtngdbhncafnliaaGreatPk9
import Derived.Test.YtngdbhncafnliaaGreatPk34
set_option linter.unusedVariables false
set_option linter.unusedSimpArgs false

/-
  Of what a rule speaks, as the document has it.
-/
namespace Go.Proofs.YtngdbhncafnliaaGreat
open Go.RowKit
set_option linter.unusedVariables false

/-- A name whose types fit into memory. -/
def Mt.FitT (d : List (List Mt.Av)) : Prop := ∀ r ∈ d, ∀ a ∈ r, a.1.length ≤ 140737488351232
theorem Mt.typ_lenA {l : List UInt8} (h : Mt.typL l = true) : l.length ≤ 32 := by
  unfold Mt.typL at h
  split at h
  · cases h
  · simp only [Bool.and_eq_true, decide_eq_true_eq] at h
    simp only [List.length_cons]
    omega
theorem Mt.dnOf_fit (l : List UInt8) : Mt.FitT (Mt.dnOf l) := by
  unfold Mt.dnOf
  cases h : Mt.dnL l with
  | error e => intro r hr; cases hr
  | ok d =>
    obtain ⟨-, -, hv, -⟩ := Mt.read_ask h
    intro r hr a ha
    have := Mt.typ_lenA ((hv r hr).2.2.1 a ha)
    omega
theorem IsDn.nil (w : World) : IsDn w (.slice none 0 0) [] := ⟨none, 0, rfl, by simp, by simp, .inl rfl⟩
/-- What the document reads of a text, and whether it can be read. -/
theorem rparse22_any (l : List UInt8) (w : World) : Calls Tryz.prog 27 #[.string (Mt.str l)] w fun e w' => ∃ a n c, e = .returned (.tuple #[.slice a n c, .int .i64 (Mt.errOf (Mt.dnL l))]) ∧ IsDn w' (.slice a n c) (Mt.dnOf l) ∧ Below w.heap.size w w' := by
  have h := rparse9_any (Mt.str l) w
  rw [Mt.str_data] at h
  refine h.mono ?_
  rintro e w' ⟨hb, h2⟩
  unfold Mt.dnOf Mt.errOf
  cases hd : Mt.dnL l with
  | error x =>
    rw [hd] at h2
    exact ⟨none, 0, 0, h2, IsDn.nil _, hb⟩
  | ok d =>
    rw [hd] at h2
    obtain ⟨v, rfl, hv⟩ := h2
    obtain ⟨a, c, rfl, h3⟩ := id hv
    exact ⟨a, _, c, rfl, hv, hb⟩
theorem Mt.key_two (d : List (List Mt.Av)) : (Mt.okP d = true ∧ textV (Mt.keyD d) = .tuple #[.string (Mt.str (Mt.kyL d)), .int .i64 0]) ∨ (Mt.okP d = false ∧ ∃ e : Nat, 0 < e ∧ textV (Mt.keyD d) = .tuple #[.string ByteArray.empty, .int .i64 e]) := by
  cases h : Mt.okP d with
  | true => exact .inl ⟨rfl, by rw [Mt.key_ok h]; rfl⟩
  | false =>
    refine .inr ⟨rfl, ?_⟩
    cases hk : Mt.keyD d with
    | error e => exact ⟨e, Mt.key_err hk, rfl⟩
    | ok k => rw [(Mt.ok_key hk).1] at h; cases h
theorem Mt.print_two (d : List (List Mt.Av)) : (Mt.okP d = true ∧ ∃ t, textV (Mt.printD d) = .tuple #[.string t, .int .i64 0]) ∨ (Mt.okP d = false ∧ ∃ e : Nat, 0 < e ∧ textV (Mt.printD d) = .tuple #[.string ByteArray.empty, .int .i64 e]) := by
  unfold Mt.okP
  cases hk : Mt.printD d with
  | error e => exact .inr ⟨rfl, e, Mt.print_err hk, rfl⟩
  | ok k => exact .inl ⟨rfl, _, rfl⟩
set_option maxRecDepth 100000 in
set_option maxHeartbeats 1000000 in
theorem rsame22_any {w : World} {v1 v2 : Value} {d1 d2 : List (List Mt.Av)} (h1 : IsDn w v1 d1) (h2 : IsDn w v2 d2) (f1 : Mt.FitT d1) (f2 : Mt.FitT d2) :
    Calls Tryz.prog 31 #[v1, v2] w fun e w' => e = .returned (.bool (Mt.sameA d1 d2)) ∧ Below w.heap.size w w' := by
  have HN1 := Lib.hid (rnorm_of rplain_any h1 f1)
  have HN2 := Lib.hid (fun (u : World) (hb : Below w.heap.size w u) => rnorm_of rplain_any (h2.below hb) f2)
  have hq := str_eqB (Mt.kyL d1) (Mt.kyL d2)
  unfold Mt.sameA
  obtain ⟨a1, c1, rfl, -⟩ := h1
  obtain ⟨a2, c2, rfl, -⟩ := h2
  clear f1 f2
  have hk1 := Mt.key_two d1
  have hk2 := Mt.key_two d2
  obtain ⟨Z, hZ⟩ : ∃ z, decide (Mt.kyL d1 = Mt.kyL d2) = z := ⟨_, rfl⟩
  rw [hZ] at hq ⊢
  generalize Mt.str (Mt.kyL d1) = K1 at *
  generalize Mt.str (Mt.kyL d2) = K2 at *
  clear hZ
  rcases hk1 with ⟨ho1, ht1⟩ | ⟨ho1, e1, hp1, ht1⟩
  · rcases hk2 with ⟨ho2, ht2⟩ | ⟨ho2, e2, hp2, ht2⟩
    · simp only [ht1] at HN1
      simp only [ht2] at HN2
      rw [ho1, ho2]
      clear ht1 ht2 ho1 ho2
      go_enter Tryz.func31, Tryz.ntmps31
      go_wp2_with fail
      refine (HN1.out).mono ?_
      rintro e w2 ⟨rfl, hb⟩
      have HB2 := Lib.hid hb
      clear hb
      go_wp2_with fail
      refine (HN2.out _ HB2.out).mono ?_
      rintro e w3 ⟨rfl, hb⟩
      have HB3 := Lib.hid (HB2.out.trans (hb.mono HB2.out.size))
      clear hb
      go_wp2_with fail
      all_goals (go_ret; exact ⟨by first | rfl | simp, HB3.out⟩)
    · simp only [ht1] at HN1
      simp only [ht2] at HN2
      rw [ho1, ho2]
      have hz1 : ((e2 : Int) == 0) = false := by simp; omega
      have hz2 : ¬ e2 = 0 := by omega
      clear ht1 ht2 ho1 ho2 hp2
      go_enter Tryz.func31, Tryz.ntmps31
      go_wp2_with fail
      refine (HN1.out).mono ?_
      rintro e w2 ⟨rfl, hb⟩
      have HB2 := Lib.hid hb
      clear hb
      go_wp2_with fail
      refine (HN2.out _ HB2.out).mono ?_
      rintro e w3 ⟨rfl, hb⟩
      have HB3 := Lib.hid (HB2.out.trans (hb.mono HB2.out.size))
      clear hb
      go_wp2_with fail
      all_goals (go_ret; exact ⟨by first | rfl | simp, HB3.out⟩)
  · have HT2 : Hid (∃ r t, textV (Mt.keyD d2) = .tuple #[.string r, .int .i64 t]) := Lib.hid (by
      rcases hk2 with ⟨_, ht2⟩ | ⟨_, e2, _, ht2⟩
      · exact ⟨_, _, ht2⟩
      · exact ⟨_, _, ht2⟩)
    obtain ⟨r2, t2, hrt⟩ := HT2.out
    simp only [ht1] at HN1
    simp only [hrt] at HN2
    rw [ho1]
    have hz1 : ((e1 : Int) == 0) = false := by simp; omega
    have hz2 : ¬ e1 = 0 := by omega
    clear ht1 hrt ho1 hp1 hk2 HT2
    go_enter Tryz.func31, Tryz.ntmps31
    go_wp2_with fail
    refine (HN1.out).mono ?_
    rintro e w2 ⟨rfl, hb⟩
    have HB2 := Lib.hid hb
    clear hb
    go_wp2_with fail
    refine (HN2.out _ HB2.out).mono ?_
    rintro e w3 ⟨rfl, hb⟩
    have HB3 := Lib.hid (HB2.out.trans (hb.mono HB2.out.size))
    clear hb
    go_wp2_with fail
    all_goals (go_ret; exact ⟨by first | rfl | simp, HB3.out⟩)
end Go.Proofs.YtngdbhncafnliaaGreat

/-
  Of what a rule speaks, as the document has it: the call.
-/
namespace Go.Proofs.YtngdbhncafnliaaGreat
open Go.RowKit
set_option linter.unusedVariables false

def Mt.spkB (who : Int) (ok w0 s1 s2 u2 : Bool) : Bool := if who = 1 then ok && !w0 else if who = 2 then ok && s1 else if who = 3 then ok && s2 else if who = 4 then ok && !w0 && u2 else ok
theorem Mt.speaks_spk (r : Mt.Ru) (who entry : List (List Mt.Av)) (a : List UInt8) (right : Int) : Mt.speaksA r who entry a right = Mt.spkB r.who (Mt.underD entry (Mt.dnOf r.wh) && (decide (r.att = []) || decide (Mt.foldL r.att = Mt.foldL a)) && decide (Int.tmod (Int.tdiv r.rights right) 2 = 1)) (decide (who = [])) (Mt.sameA who entry) (Mt.sameA who (Mt.dnOf r.dn)) (Mt.underD who (Mt.dnOf r.dn)) := rfl
theorem Mt.quo_facts {ri right : Int} (h1 : 1 ≤ ri) (h2 : ri ≤ 15) (h : Mt.rightB right = true) : wrap64 (Int.tdiv ri right) = Int.tdiv ri right ∧ wrap64 (Int.tmod (Int.tdiv ri right) 2) = Int.tmod (Int.tdiv ri right) 2 := by
  have hn : ∀ n : Fin 16, ∀ m : Fin 4, wrap64 (Int.tdiv (n.val : Int) ((2 ^ m.val : Nat) : Int)) = Int.tdiv (n.val : Int) ((2 ^ m.val : Nat) : Int) ∧ wrap64 (Int.tmod (Int.tdiv (n.val : Int) ((2 ^ m.val : Nat) : Int)) 2) = Int.tmod (Int.tdiv (n.val : Int) ((2 ^ m.val : Nat) : Int)) 2 := by decide +kernel
  obtain ⟨n, rfl⟩ := Int.eq_ofNat_of_zero_le (show 0 ≤ ri by omega)
  have hlt : n < 16 := by omega
  unfold Mt.rightB at h
  rw [decide_eq_true_eq] at h
  rcases h with rfl | rfl | rfl | rfl
  · exact hn ⟨n, hlt⟩ 0
  · exact hn ⟨n, hlt⟩ 1
  · exact hn ⟨n, hlt⟩ 2
  · exact hn ⟨n, hlt⟩ 3
set_option maxRecDepth 100000 in
set_option maxHeartbeats 8000000 in
theorem rspeaks22_any {w : World} {v1 v2 : Value} {d1 d2 : List (List Mt.Av)} {right : Int} (r : Mt.Ru) (a : List UInt8) (h1 : IsDn w v1 d1) (h2 : IsDn w v2 d2) (f1 : Mt.FitT d1) (f2 : Mt.FitT d2) (hr1 : 1 ≤ r.rights) (hr2 : r.rights ≤ 15) (hrt : Mt.rightB right = true) (hat : r.att.length ≤ 140737488351232) (hal : a.length ≤ 140737488351232) :
    Calls Tryz.prog 32 #[ruV r, v1, v2, .string (Mt.str a), .int .i64 right] w fun e w' => e = .returned (.bool (Mt.speaksA r d1 d2 a right)) ∧ Below w.heap.size w w' := by
  rw [Mt.speaks_spk]
  have HP1 := Lib.hid (fun (u : World) => rparse22_any r.wh u)
  have HP2 := Lib.hid (fun (u : World) => rparse22_any r.dn u)
  have HU1 := Lib.hid (fun (u : World) (hb : Below w.heap.size w u) (v : Value) (hv : IsDn u v (Mt.dnOf r.wh)) => runder_any (h2.below hb) hv f2 (Mt.dnOf_fit r.wh))
  have HU2 := Lib.hid (fun (u : World) (hb : Below w.heap.size w u) (v : Value) (hv : IsDn u v (Mt.dnOf r.dn)) => runder_any (h1.below hb) hv f1 (Mt.dnOf_fit r.dn))
  have HS1 := Lib.hid (fun (u : World) (hb : Below w.heap.size w u) => rsame22_any (h1.below hb) (h2.below hb) f1 f2)
  have HS2 := Lib.hid (fun (u : World) (hb : Below w.heap.size w u) (v : Value) (hv : IsDn u v (Mt.dnOf r.dn)) => rsame22_any (h1.below hb) hv f1 (Mt.dnOf_fit r.dn))
  have HF1 := Lib.hid (fun u => rfold_any (Mt.str r.att) u (by rw [Mt.str_size]; omega))
  have HF2 := Lib.hid (fun u => rfold_any (Mt.str a) u (by rw [Mt.str_size]; omega))
  rw [Mt.str_data] at HF1 HF2
  have hfo1 : Mt.str (r.att.map Mt.sm) = Mt.str (Mt.foldL r.att) := rfl
  have hfo2 : Mt.str (a.map Mt.sm) = Mt.str (Mt.foldL a) := rfl
  rw [hfo1] at HF1
  rw [hfo2] at HF2
  obtain ⟨hq1, hq2⟩ := Mt.quo_facts hr1 hr2 hrt
  have hr0 : right ≠ 0 := fun h => by rw [h] at hrt; exact absurd hrt (by decide)
  have HUA := isEmpty_str r.att
  have HZZ := str_eqB (Mt.foldL r.att) (Mt.foldL a)
  obtain ⟨U, hU⟩ : ∃ z, Mt.underD d2 (Mt.dnOf r.wh) = z := ⟨_, rfl⟩
  obtain ⟨U2, hU2⟩ : ∃ z, Mt.underD d1 (Mt.dnOf r.dn) = z := ⟨_, rfl⟩
  obtain ⟨S1, hS1⟩ : ∃ z, Mt.sameA d1 d2 = z := ⟨_, rfl⟩
  obtain ⟨S2, hS2⟩ : ∃ z, Mt.sameA d1 (Mt.dnOf r.dn) = z := ⟨_, rfl⟩
  obtain ⟨E, hE⟩ : ∃ z, decide (r.att = []) = z := ⟨_, rfl⟩
  obtain ⟨Z, hZ⟩ : ∃ z, decide (Mt.foldL r.att = Mt.foldL a) = z := ⟨_, rfl⟩
  simp only [hU] at HU1
  simp only [hU2] at HU2
  simp only [hS1] at HS1
  simp only [hS2] at HS2
  rw [hE] at HUA
  rw [hZ] at HZZ
  rw [hU, hU2, hS1, hS2, hE, hZ]
  obtain ⟨who, dn, wh, att, ri, al⟩ := r
  unfold ruV
  simp only at HP1 HP2 HU1 HU2 HS2 HF1 hq1 hq2 HUA HZZ ⊢
  obtain ⟨Q, hQ⟩ : ∃ q, Int.tdiv ri right = q := ⟨_, rfl⟩
  obtain ⟨M, hM⟩ : ∃ q, Int.tmod Q 2 = q := ⟨_, rfl⟩
  rw [hQ] at hq1 hq2 ⊢
  rw [hM] at hq2 ⊢
  obtain ⟨RT, hRT⟩ : ∃ z, decide (M = 1) = z := ⟨_, rfl⟩
  rw [hRT]
  have hrt1 : (M == 1) = RT := by rw [← hRT]; exact Bool.eq_iff_iff.2 (by simp)
  have hrz1 : (right == 0) = false := by simpa using hr0
  have hrz2 : decide (right = 0) = false := decide_eq_false hr0
  generalize Mt.str (Mt.foldL att) = FA at *
  generalize Mt.str (Mt.foldL a) = FB at *
  generalize Mt.str dn = DB at *
  generalize Mt.str wh = WB at *
  generalize Mt.str att = AB at *
  generalize Mt.str a = XB at *
  obtain ⟨t1, ht1⟩ : ∃ t, Mt.errOf (Mt.dnL wh) = t := ⟨_, rfl⟩
  obtain ⟨t2, ht2⟩ : ∃ t, Mt.errOf (Mt.dnL dn) = t := ⟨_, rfl⟩
  simp only [ht1] at HP1
  simp only [ht2] at HP2
  obtain ⟨a1, c1, rfl, -⟩ := h1
  obtain ⟨a2, c2, rfl, -⟩ := h2
  have hlz : decide (d1 = []) = decide (d1.length = 0) := by rw [Bool.eq_iff_iff]; simp
  rw [hlz]
  generalize d1.length = n1 at *
  generalize d2.length = n2 at *
  obtain ⟨OKV, hOKV⟩ : ∃ z, (U && (E || Z) && RT) = z := ⟨_, rfl⟩
  rw [hOKV]
  have HOK := Lib.hid hOKV
  clear hOKV
  obtain ⟨w1, hw1⟩ : ∃ u, w.alloc (.cells #[.int .i64 who, .string DB, .string WB, .string AB, .int .i64 ri, .bool al] 54) = u := ⟨_, rfl⟩
  have hA1 : Below w.heap.size w w1 := by rw [← hw1]; exact (Below.refl _ w).alloc (Nat.le_refl _) _
  have hx1 : w1.heap[w.heap.size]? = some (.cells #[.int .i64 who, .string DB, .string WB, .string AB, .int .i64 ri, .bool al] 54) := by rw [← hw1]; exact heap_alloc_new w _
  have HA1 := Lib.hid hA1
  have HX : Hid (∀ u, Below w1.heap.size w1 u → u.heap[w.heap.size]? = some (.cells #[.int .i64 who, .string DB, .string WB, .string AB, .int .i64 ri, .bool al] 54) ∧ Below w.heap.size w u) := Lib.hid (fun u hu => ⟨(hu.block _ (lt_of_block hx1)).trans hx1, hA1.trans (hu.mono hA1.size)⟩)
  obtain ⟨q0, q1, q2, q3, q4, q5⟩ := box6_of hx1
  clear hr1 hr2 hrt hat hal hU hU2 hS1 hS2 hE hZ hfo1 hfo2 hRT ht1 ht2 hx1 hA1 hlz
  go_enter Tryz.func32, Tryz.ntmps32
  go_wp2_with fail
  refine (HP1.out _).mono ?_
  rintro e w2 ⟨pa, pn, pc, rfl, hpd, hb⟩
  have HW2 : Hid (Below w1.heap.size w1 w2) := Lib.hid hb
  have HD1 := Lib.hid hpd
  clear hb hpd q0 q1 q2 q3 q4 q5
  obtain ⟨q0, q1, q2, q3, q4, q5⟩ := box6_of (HX.out _ HW2.out).1
  go_wp2_with fail
  refine (HP2.out _).mono ?_
  rintro e w3 ⟨pa2, pn2, pc2, rfl, hpd2, hb⟩
  have HW3 := Lib.hid (HW2.out.trans (hb.mono HW2.out.size))
  have HD13 := Lib.hid (HD1.out.below hb)
  have HD23 := Lib.hid hpd2
  clear hb hpd2 HD1 q0 q1 q2 q3 q4 q5
  have HB3 := Lib.hid (HX.out _ HW3.out).2
  go_wp2_with fail
  refine (HU1.out _ HB3.out _ HD13.out).mono ?_
  rintro e w4 ⟨rfl, hb⟩
  have HW4 := Lib.hid (HW3.out.trans (hb.mono HW3.out.size))
  have HD24 := Lib.hid (HD23.out.below hb)
  clear hb HD13 HD23
  obtain ⟨hrow4, hB4⟩ := HX.out _ HW4.out
  have HB4 := Lib.hid hB4
  obtain ⟨q0, q1, q2, q3, q4, q5⟩ := box6_of hrow4
  clear hrow4 hB4
  cases U with
  | false =>
    have HOV : Hid (OKV = false) := Lib.hid (HOK.out.symm.trans (by rfl))
    go_upto_region 5 with fail
    clear q0 q1 q2 q3 q4 q5
    by_cases k1 : who = 1
    · subst k1
      by_cases hn : n1 = 0
      · subst hn
        have HR : Hid (Mt.spkB 1 OKV true S1 S2 U2 = false) := Lib.hid (by rw [HOV.out]; rfl)
        go_wp2_with fail
        all_goals (go_ret; exact ⟨by rw [HR.out]; rfl, HB4.out⟩)
      · have e1 : decide ((0 : Int) < (n1 : Int)) = true := decide_eq_true (by omega)
        have e2 : decide (0 < n1) = true := decide_eq_true (by omega)
        have e3 : decide (n1 = 0) = false := decide_eq_false hn
        have HR : Hid (Mt.spkB 1 OKV (decide (n1 = 0)) S1 S2 U2 = false ∧ Mt.spkB 1 OKV false S1 S2 U2 = false) := Lib.hid ⟨by rw [e3, HOV.out]; rfl, by rw [HOV.out]; rfl⟩
        clear hn
        go_wp2_with fail
        all_goals (go_ret; exact ⟨by first | (rw [HR.out.1]; rfl) | (rw [HR.out.2]; rfl), HB4.out⟩)
    by_cases k2 : who = 2
    · subst k2
      have HR : Hid (Mt.spkB 2 OKV (decide (n1 = 0)) S1 S2 U2 = (false && S1)) := Lib.hid (by rw [HOV.out]; rfl)
      go_wp2_with fail
      all_goals (go_ret; exact ⟨by rw [HR.out]; rfl, HB4.out⟩)
    by_cases k3 : who = 3
    · subst k3
      have HR : Hid (Mt.spkB 3 OKV (decide (n1 = 0)) S1 S2 U2 = (false && S2)) := Lib.hid (by rw [HOV.out]; rfl)
      go_wp2_with fail
      all_goals (go_ret; exact ⟨by rw [HR.out]; rfl, HB4.out⟩)
    by_cases k4 : who = 4
    · subst k4
      have HR : Hid (Mt.spkB 4 OKV (decide (n1 = 0)) S1 S2 U2 = false) := Lib.hid (by rw [HOV.out]; rfl)
      go_wp2_with fail
      all_goals (go_ret; exact ⟨by rw [HR.out]; rfl, HB4.out⟩)
    have b1 : (who == 1) = false := by simpa using k1
    have b2 : (who == 2) = false := by simpa using k2
    have b3 : (who == 3) = false := by simpa using k3
    have b4 : (who == 4) = false := by simpa using k4
    have HR : Hid (Mt.spkB who OKV (decide (n1 = 0)) S1 S2 U2 = false) := Lib.hid (by unfold Mt.spkB; rw [if_neg k1, if_neg k2, if_neg k3, if_neg k4, HOV.out])
    clear k1 k2 k3 k4
    go_wp2_with fail
    all_goals (go_ret; exact ⟨by rw [HR.out]; rfl, HB4.out⟩)
  | true =>
    cases E with
    | true =>
      cases RT with
      | false =>
        have HOV : Hid (OKV = false) := Lib.hid (HOK.out.symm.trans (by rfl))
        go_upto_region 5 with fail
        clear q0 q1 q2 q3 q4 q5
        by_cases k1 : who = 1
        · subst k1
          by_cases hn : n1 = 0
          · subst hn
            have HR : Hid (Mt.spkB 1 OKV true S1 S2 U2 = false) := Lib.hid (by rw [HOV.out]; rfl)
            go_wp2_with fail
            all_goals (go_ret; exact ⟨by rw [HR.out]; rfl, HB4.out⟩)
          · have e1 : decide ((0 : Int) < (n1 : Int)) = true := decide_eq_true (by omega)
            have e2 : decide (0 < n1) = true := decide_eq_true (by omega)
            have e3 : decide (n1 = 0) = false := decide_eq_false hn
            have HR : Hid (Mt.spkB 1 OKV (decide (n1 = 0)) S1 S2 U2 = false ∧ Mt.spkB 1 OKV false S1 S2 U2 = false) := Lib.hid ⟨by rw [e3, HOV.out]; rfl, by rw [HOV.out]; rfl⟩
            clear hn
            go_wp2_with fail
            all_goals (go_ret; exact ⟨by first | (rw [HR.out.1]; rfl) | (rw [HR.out.2]; rfl), HB4.out⟩)
        by_cases k2 : who = 2
        · subst k2
          have HR : Hid (Mt.spkB 2 OKV (decide (n1 = 0)) S1 S2 U2 = (false && S1)) := Lib.hid (by rw [HOV.out]; rfl)
          go_wp2_with fail
          all_goals (go_ret; exact ⟨by rw [HR.out]; rfl, HB4.out⟩)
        by_cases k3 : who = 3
        · subst k3
          have HR : Hid (Mt.spkB 3 OKV (decide (n1 = 0)) S1 S2 U2 = (false && S2)) := Lib.hid (by rw [HOV.out]; rfl)
          go_wp2_with fail
          all_goals (go_ret; exact ⟨by rw [HR.out]; rfl, HB4.out⟩)
        by_cases k4 : who = 4
        · subst k4
          have HR : Hid (Mt.spkB 4 OKV (decide (n1 = 0)) S1 S2 U2 = false) := Lib.hid (by rw [HOV.out]; rfl)
          go_wp2_with fail
          all_goals (go_ret; exact ⟨by rw [HR.out]; rfl, HB4.out⟩)
        have b1 : (who == 1) = false := by simpa using k1
        have b2 : (who == 2) = false := by simpa using k2
        have b3 : (who == 3) = false := by simpa using k3
        have b4 : (who == 4) = false := by simpa using k4
        have HR : Hid (Mt.spkB who OKV (decide (n1 = 0)) S1 S2 U2 = false) := Lib.hid (by unfold Mt.spkB; rw [if_neg k1, if_neg k2, if_neg k3, if_neg k4, HOV.out])
        clear k1 k2 k3 k4
        go_wp2_with fail
        all_goals (go_ret; exact ⟨by rw [HR.out]; rfl, HB4.out⟩)
      | true =>
        have HOV : Hid (OKV = true) := Lib.hid (HOK.out.symm.trans (by rfl))
        go_upto_region 5 with fail
        clear q0 q1 q2 q3 q4 q5
        by_cases k1 : who = 1
        · subst k1
          by_cases hn : n1 = 0
          · subst hn
            have HR : Hid (Mt.spkB 1 OKV true S1 S2 U2 = false) := Lib.hid (by rw [HOV.out]; rfl)
            go_wp2_with fail
            all_goals (go_ret; exact ⟨by rw [HR.out]; rfl, HB4.out⟩)
          · have e1 : decide ((0 : Int) < (n1 : Int)) = true := decide_eq_true (by omega)
            have e2 : decide (0 < n1) = true := decide_eq_true (by omega)
            have e3 : decide (n1 = 0) = false := decide_eq_false hn
            have HR : Hid (Mt.spkB 1 OKV (decide (n1 = 0)) S1 S2 U2 = true ∧ Mt.spkB 1 OKV false S1 S2 U2 = true) := Lib.hid ⟨by rw [e3, HOV.out]; rfl, by rw [HOV.out]; rfl⟩
            clear hn
            go_wp2_with fail
            all_goals (go_ret; exact ⟨by first | (rw [HR.out.1]; rfl) | (rw [HR.out.2]; rfl), HB4.out⟩)
        by_cases k2 : who = 2
        · subst k2
          have HR : Hid (Mt.spkB 2 OKV (decide (n1 = 0)) S1 S2 U2 = (true && S1)) := Lib.hid (by rw [HOV.out]; rfl)
          have HC := Lib.hid (HS1.out _ HB4.out)
          go_wp2_with fail
          refine (HC.out).mono ?_
          rintro e w9 ⟨rfl, hb⟩
          have HB9 := Lib.hid (HB4.out.trans (hb.mono HB4.out.size))
          clear hb
          go_wp2_with fail
          all_goals (go_ret; exact ⟨by rw [HR.out]; rfl, HB9.out⟩)
        by_cases k3 : who = 3
        · subst k3
          have HR : Hid (Mt.spkB 3 OKV (decide (n1 = 0)) S1 S2 U2 = (true && S2)) := Lib.hid (by rw [HOV.out]; rfl)
          have HC := Lib.hid (HS2.out _ HB4.out _ HD24.out)
          go_wp2_with fail
          refine (HC.out).mono ?_
          rintro e w9 ⟨rfl, hb⟩
          have HB9 := Lib.hid (HB4.out.trans (hb.mono HB4.out.size))
          clear hb
          go_wp2_with fail
          all_goals (go_ret; exact ⟨by rw [HR.out]; rfl, HB9.out⟩)
        by_cases k4 : who = 4
        · subst k4
          by_cases hn : n1 = 0
          · subst hn
            have HR : Hid (Mt.spkB 4 OKV true S1 S2 U2 = false) := Lib.hid (by rw [HOV.out]; rfl)
            go_wp2_with fail
            all_goals (go_ret; exact ⟨by rw [HR.out]; rfl, HB4.out⟩)
          · have e1 : decide ((0 : Int) < (n1 : Int)) = true := decide_eq_true (by omega)
            have e2 : decide (0 < n1) = true := decide_eq_true (by omega)
            have e3 : decide (n1 = 0) = false := decide_eq_false hn
            have HR : Hid (Mt.spkB 4 OKV (decide (n1 = 0)) S1 S2 U2 = U2 ∧ Mt.spkB 4 OKV false S1 S2 U2 = U2) := Lib.hid ⟨by rw [e3, HOV.out]; rfl, by rw [HOV.out]; rfl⟩
            have HC := Lib.hid (HU2.out _ HB4.out _ HD24.out)
            clear hn
            go_wp2_with fail
            refine (HC.out).mono ?_
            rintro e w9 ⟨rfl, hb⟩
            have HB9 := Lib.hid (HB4.out.trans (hb.mono HB4.out.size))
            clear hb
            go_wp2_with fail
            all_goals (go_ret; exact ⟨by first | (rw [HR.out.1]; rfl) | (rw [HR.out.2]; rfl), HB9.out⟩)
        have b1 : (who == 1) = false := by simpa using k1
        have b2 : (who == 2) = false := by simpa using k2
        have b3 : (who == 3) = false := by simpa using k3
        have b4 : (who == 4) = false := by simpa using k4
        have HR : Hid (Mt.spkB who OKV (decide (n1 = 0)) S1 S2 U2 = true) := Lib.hid (by unfold Mt.spkB; rw [if_neg k1, if_neg k2, if_neg k3, if_neg k4, HOV.out])
        clear k1 k2 k3 k4
        go_wp2_with fail
        all_goals (go_ret; exact ⟨by rw [HR.out]; rfl, HB4.out⟩)
    | false =>
      go_wp2_with fail
      refine (HF1.out _).mono ?_
      rintro e w5 ⟨rfl, hb⟩
      have HW5 := Lib.hid (HW4.out.trans (hb.mono HW4.out.size))
      have HD25 := Lib.hid (HD24.out.below hb)
      clear hb q0 q1 q2 q3 q4 q5
      go_wp2_with fail
      refine (HF2.out _).mono ?_
      rintro e w6 ⟨rfl, hb⟩
      have HW6 := Lib.hid (HW5.out.trans (hb.mono HW5.out.size))
      have HD26 := Lib.hid (HD25.out.below hb)
      clear hb HD25
      obtain ⟨hrow6, hB6⟩ := HX.out _ HW6.out
      have HB6 := Lib.hid hB6
      obtain ⟨q0, q1, q2, q3, q4, q5⟩ := box6_of hrow6
      clear hrow6 hB6
      cases Z with
      | false =>
        have HOV : Hid (OKV = false) := Lib.hid (HOK.out.symm.trans (by rfl))
        go_upto_region 5 with fail
        clear q0 q1 q2 q3 q4 q5
        by_cases k1 : who = 1
        · subst k1
          by_cases hn : n1 = 0
          · subst hn
            have HR : Hid (Mt.spkB 1 OKV true S1 S2 U2 = false) := Lib.hid (by rw [HOV.out]; rfl)
            go_wp2_with fail
            all_goals (go_ret; exact ⟨by rw [HR.out]; rfl, HB6.out⟩)
          · have e1 : decide ((0 : Int) < (n1 : Int)) = true := decide_eq_true (by omega)
            have e2 : decide (0 < n1) = true := decide_eq_true (by omega)
            have e3 : decide (n1 = 0) = false := decide_eq_false hn
            have HR : Hid (Mt.spkB 1 OKV (decide (n1 = 0)) S1 S2 U2 = false ∧ Mt.spkB 1 OKV false S1 S2 U2 = false) := Lib.hid ⟨by rw [e3, HOV.out]; rfl, by rw [HOV.out]; rfl⟩
            clear hn
            go_wp2_with fail
            all_goals (go_ret; exact ⟨by first | (rw [HR.out.1]; rfl) | (rw [HR.out.2]; rfl), HB6.out⟩)
        by_cases k2 : who = 2
        · subst k2
          have HR : Hid (Mt.spkB 2 OKV (decide (n1 = 0)) S1 S2 U2 = (false && S1)) := Lib.hid (by rw [HOV.out]; rfl)
          go_wp2_with fail
          all_goals (go_ret; exact ⟨by rw [HR.out]; rfl, HB6.out⟩)
        by_cases k3 : who = 3
        · subst k3
          have HR : Hid (Mt.spkB 3 OKV (decide (n1 = 0)) S1 S2 U2 = (false && S2)) := Lib.hid (by rw [HOV.out]; rfl)
          go_wp2_with fail
          all_goals (go_ret; exact ⟨by rw [HR.out]; rfl, HB6.out⟩)
        by_cases k4 : who = 4
        · subst k4
          have HR : Hid (Mt.spkB 4 OKV (decide (n1 = 0)) S1 S2 U2 = false) := Lib.hid (by rw [HOV.out]; rfl)
          go_wp2_with fail
          all_goals (go_ret; exact ⟨by rw [HR.out]; rfl, HB6.out⟩)
        have b1 : (who == 1) = false := by simpa using k1
        have b2 : (who == 2) = false := by simpa using k2
        have b3 : (who == 3) = false := by simpa using k3
        have b4 : (who == 4) = false := by simpa using k4
        have HR : Hid (Mt.spkB who OKV (decide (n1 = 0)) S1 S2 U2 = false) := Lib.hid (by unfold Mt.spkB; rw [if_neg k1, if_neg k2, if_neg k3, if_neg k4, HOV.out])
        clear k1 k2 k3 k4
        go_wp2_with fail
        all_goals (go_ret; exact ⟨by rw [HR.out]; rfl, HB6.out⟩)
      | true =>
        cases RT with
        | false =>
          have HOV : Hid (OKV = false) := Lib.hid (HOK.out.symm.trans (by rfl))
          go_upto_region 5 with fail
          clear q0 q1 q2 q3 q4 q5
          by_cases k1 : who = 1
          · subst k1
            by_cases hn : n1 = 0
            · subst hn
              have HR : Hid (Mt.spkB 1 OKV true S1 S2 U2 = false) := Lib.hid (by rw [HOV.out]; rfl)
              go_wp2_with fail
              all_goals (go_ret; exact ⟨by rw [HR.out]; rfl, HB6.out⟩)
            · have e1 : decide ((0 : Int) < (n1 : Int)) = true := decide_eq_true (by omega)
              have e2 : decide (0 < n1) = true := decide_eq_true (by omega)
              have e3 : decide (n1 = 0) = false := decide_eq_false hn
              have HR : Hid (Mt.spkB 1 OKV (decide (n1 = 0)) S1 S2 U2 = false ∧ Mt.spkB 1 OKV false S1 S2 U2 = false) := Lib.hid ⟨by rw [e3, HOV.out]; rfl, by rw [HOV.out]; rfl⟩
              clear hn
              go_wp2_with fail
              all_goals (go_ret; exact ⟨by first | (rw [HR.out.1]; rfl) | (rw [HR.out.2]; rfl), HB6.out⟩)
          by_cases k2 : who = 2
          · subst k2
            have HR : Hid (Mt.spkB 2 OKV (decide (n1 = 0)) S1 S2 U2 = (false && S1)) := Lib.hid (by rw [HOV.out]; rfl)
            go_wp2_with fail
            all_goals (go_ret; exact ⟨by rw [HR.out]; rfl, HB6.out⟩)
          by_cases k3 : who = 3
          · subst k3
            have HR : Hid (Mt.spkB 3 OKV (decide (n1 = 0)) S1 S2 U2 = (false && S2)) := Lib.hid (by rw [HOV.out]; rfl)
            go_wp2_with fail
            all_goals (go_ret; exact ⟨by rw [HR.out]; rfl, HB6.out⟩)
          by_cases k4 : who = 4
          · subst k4
            have HR : Hid (Mt.spkB 4 OKV (decide (n1 = 0)) S1 S2 U2 = false) := Lib.hid (by rw [HOV.out]; rfl)
            go_wp2_with fail
            all_goals (go_ret; exact ⟨by rw [HR.out]; rfl, HB6.out⟩)
          have b1 : (who == 1) = false := by simpa using k1
          have b2 : (who == 2) = false := by simpa using k2
          have b3 : (who == 3) = false := by simpa using k3
          have b4 : (who == 4) = false := by simpa using k4
          have HR : Hid (Mt.spkB who OKV (decide (n1 = 0)) S1 S2 U2 = false) := Lib.hid (by unfold Mt.spkB; rw [if_neg k1, if_neg k2, if_neg k3, if_neg k4, HOV.out])
          clear k1 k2 k3 k4
          go_wp2_with fail
          all_goals (go_ret; exact ⟨by rw [HR.out]; rfl, HB6.out⟩)
        | true =>
          have HOV : Hid (OKV = true) := Lib.hid (HOK.out.symm.trans (by rfl))
          go_upto_region 5 with fail
          clear q0 q1 q2 q3 q4 q5
          by_cases k1 : who = 1
          · subst k1
            by_cases hn : n1 = 0
            · subst hn
              have HR : Hid (Mt.spkB 1 OKV true S1 S2 U2 = false) := Lib.hid (by rw [HOV.out]; rfl)
              go_wp2_with fail
              all_goals (go_ret; exact ⟨by rw [HR.out]; rfl, HB6.out⟩)
            · have e1 : decide ((0 : Int) < (n1 : Int)) = true := decide_eq_true (by omega)
              have e2 : decide (0 < n1) = true := decide_eq_true (by omega)
              have e3 : decide (n1 = 0) = false := decide_eq_false hn
              have HR : Hid (Mt.spkB 1 OKV (decide (n1 = 0)) S1 S2 U2 = true ∧ Mt.spkB 1 OKV false S1 S2 U2 = true) := Lib.hid ⟨by rw [e3, HOV.out]; rfl, by rw [HOV.out]; rfl⟩
              clear hn
              go_wp2_with fail
              all_goals (go_ret; exact ⟨by first | (rw [HR.out.1]; rfl) | (rw [HR.out.2]; rfl), HB6.out⟩)
          by_cases k2 : who = 2
          · subst k2
            have HR : Hid (Mt.spkB 2 OKV (decide (n1 = 0)) S1 S2 U2 = (true && S1)) := Lib.hid (by rw [HOV.out]; rfl)
            have HC := Lib.hid (HS1.out _ HB6.out)
            go_wp2_with fail
            refine (HC.out).mono ?_
            rintro e w9 ⟨rfl, hb⟩
            have HB9 := Lib.hid (HB6.out.trans (hb.mono HB6.out.size))
            clear hb
            go_wp2_with fail
            all_goals (go_ret; exact ⟨by rw [HR.out]; rfl, HB9.out⟩)
          by_cases k3 : who = 3
          · subst k3
            have HR : Hid (Mt.spkB 3 OKV (decide (n1 = 0)) S1 S2 U2 = (true && S2)) := Lib.hid (by rw [HOV.out]; rfl)
            have HC := Lib.hid (HS2.out _ HB6.out _ HD26.out)
            go_wp2_with fail
            refine (HC.out).mono ?_
            rintro e w9 ⟨rfl, hb⟩
            have HB9 := Lib.hid (HB6.out.trans (hb.mono HB6.out.size))
            clear hb
            go_wp2_with fail
            all_goals (go_ret; exact ⟨by rw [HR.out]; rfl, HB9.out⟩)
          by_cases k4 : who = 4
          · subst k4
            by_cases hn : n1 = 0
            · subst hn
              have HR : Hid (Mt.spkB 4 OKV true S1 S2 U2 = false) := Lib.hid (by rw [HOV.out]; rfl)
              go_wp2_with fail
              all_goals (go_ret; exact ⟨by rw [HR.out]; rfl, HB6.out⟩)
            · have e1 : decide ((0 : Int) < (n1 : Int)) = true := decide_eq_true (by omega)
              have e2 : decide (0 < n1) = true := decide_eq_true (by omega)
              have e3 : decide (n1 = 0) = false := decide_eq_false hn
              have HR : Hid (Mt.spkB 4 OKV (decide (n1 = 0)) S1 S2 U2 = U2 ∧ Mt.spkB 4 OKV false S1 S2 U2 = U2) := Lib.hid ⟨by rw [e3, HOV.out]; rfl, by rw [HOV.out]; rfl⟩
              have HC := Lib.hid (HU2.out _ HB6.out _ HD26.out)
              clear hn
              go_wp2_with fail
              refine (HC.out).mono ?_
              rintro e w9 ⟨rfl, hb⟩
              have HB9 := Lib.hid (HB6.out.trans (hb.mono HB6.out.size))
              clear hb
              go_wp2_with fail
              all_goals (go_ret; exact ⟨by first | (rw [HR.out.1]; rfl) | (rw [HR.out.2]; rfl), HB9.out⟩)
          have b1 : (who == 1) = false := by simpa using k1
          have b2 : (who == 2) = false := by simpa using k2
          have b3 : (who == 3) = false := by simpa using k3
          have b4 : (who == 4) = false := by simpa using k4
          have HR : Hid (Mt.spkB who OKV (decide (n1 = 0)) S1 S2 U2 = true) := Lib.hid (by unfold Mt.spkB; rw [if_neg k1, if_neg k2, if_neg k3, if_neg k4, HOV.out])
          clear k1 k2 k3 k4
          go_wp2_with fail
          all_goals (go_ret; exact ⟨by rw [HR.out]; rfl, HB6.out⟩)
end Go.Proofs.YtngdbhncafnliaaGreat
