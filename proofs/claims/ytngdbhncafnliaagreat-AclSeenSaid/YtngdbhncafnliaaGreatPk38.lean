/-
  Some texts of one proof, one behind the other.
-/
import Derived.Test.YtngdbhncafnliaaGreatPk37
set_option linter.unusedVariables false
set_option linter.unusedSimpArgs false

/-
  What rules that are read allow of an attribute.
-/
namespace Go.Proofs.YtngdbhncafnliaaGreat
open Go.RowKit

set_option maxRecDepth 100000 in
theorem allowsF_any (c : Mt.Ru) (a : List UInt8) (q : Nat) (w : World) (hq : w.cell? ⟨q, 0, none⟩ = some (.string (Mt.str (Mt.foldL a)))) :
    Calls Tryz.prog 48 #[ruV c, .pointer (some ⟨q, 0, none⟩)] w fun e w' => e = .returned (.bool (Mt.attP a c)) ∧ Below w.heap.size w w' := by
  have hql := World.block_lt_of_cell? w ⟨q, 0, none⟩ hq
  obtain ⟨who, dn, wh, att, rights, allow⟩ := c
  unfold Mt.attP ruV
  simp only
  have HU := isEmpty_str att
  have HX := str_eqB att (Mt.foldL a)
  generalize Mt.str att = AB at *
  generalize Mt.str dn = DB at *
  generalize Mt.str wh = WB at *
  generalize Mt.str (Mt.foldL a) = FB at *
  obtain ⟨E, hE⟩ : ∃ E, decide (att = []) = E := ⟨_, rfl⟩
  obtain ⟨z, hz⟩ : ∃ z, decide (att = Mt.foldL a) = z := ⟨_, rfl⟩
  rw [hE] at HU
  rw [hz] at HX
  rw [hE, hz]
  clear hE hz
  obtain ⟨w1, hw1⟩ : ∃ u, w.alloc (.cells #[.int .i64 who, .string DB, .string WB, .string AB, .int .i64 rights, .bool allow] 66) = u := ⟨_, rfl⟩
  have hA : Below w.heap.size w w1 := by rw [← hw1]; exact (Below.refl _ w).alloc (Nat.le_refl _) _
  have hr : w1.heap[w.heap.size]? = some (.cells #[.int .i64 who, .string DB, .string WB, .string AB, .int .i64 rights, .bool allow] 66) := by rw [← hw1]; exact heap_alloc_new w _
  obtain ⟨q0, q1, q2, q3, q4, q5⟩ := box6_of hr
  have x1 := (hA.cell (p := ⟨q, 0, none⟩) hql).trans hq
  have HA := Lib.hid hA
  clear hA hr hq hql
  cases E
  all_goals
    go_enter Tryz.func48, Tryz.ntmps48
    go_wp2_with fail
    all_goals (go_ret; exact ⟨by first | rfl | simp, HA.out⟩)
set_option maxRecDepth 100000 in
set_option maxHeartbeats 1000000 in
theorem indexClause_any {w : World} {v : Value} {r : List Mt.Ru} (hv : IsRus w v r) (a : List UInt8) (c : Nat) (hc : w.cell? ⟨c, 0, none⟩ = some (.string (Mt.str (Mt.foldL a)))) (hn : r.length ≤ 4398046511104) :
    Calls Tryz.prog 47 #[v, .func (.func 48) #[] #[.pointer (some ⟨c, 0, none⟩)]] w fun e w' => e = .returned (.int .i64 (Mt.atL (Mt.attP a) r)) ∧ Below w.heap.size w w' := by
  obtain ⟨ad, cap, rfl, hcap, hcell⟩ := hv
  have HC := Lib.hid (fun (u : World) (hb : Below w.heap.size w u) => (hb.cell (p := ⟨c, 0, none⟩) (World.block_lt_of_cell? w ⟨c, 0, none⟩ hc)).trans hc)
  have hd := Mt.atL_spec (Mt.attP a) r
  obtain ⟨k, hk⟩ : ∃ k, Mt.atL (Mt.attP a) r = k := ⟨_, rfl⟩
  rw [hk] at hd ⊢
  have HD := Lib.hid hd
  clear hk hc hd
  obtain ⟨m0, hm0⟩ : ∃ m, r.length = m := ⟨_, rfl⟩
  have HL := Lib.hid hm0
  rw [hm0] at hn ⊢
  clear hm0 hcap
  go_enter Tryz.func47, Tryz.ntmps47
  go_wp2_with fail
  go_loopw [8] (fun i wr => ∃ m : Nat, m ≤ m0 ∧ i = .int .i64 m ∧ Hid (∀ j (hj : j < r.length), j < m → Mt.attP a r[j] = false) ∧ Hid (Below w.heap.size w wr))
    (fun i _ => m0 - (intOf i).toNat)
  case atStart => exact ⟨0, Nat.zero_le _, rfl, Lib.hid fun j _ h => absurd h (Nat.not_lt_zero _), Lib.hid (Below.refl _ _)⟩
  case round =>
    obtain ⟨m, hm, rfl, HO, HB⟩ := hrel
    by_cases hlt : m < m0
    · have hmr : m < r.length := by rw [HL.out]; exact hlt
      obtain ⟨b, off, e0, hbl, h0, h1, h2, h3, h4, h5⟩ := hcell.out m hmr
      obtain ⟨t, ht⟩ : ∃ t, r[m] = t := ⟨_, rfl⟩
      rw [ht] at h0 h1 h2 h3 h4 h5
      subst e0
      have x0 := (HB.out.cell (p := ⟨b, off + m * 6, none⟩) hbl).trans h0
      have x1 := (HB.out.cell (p := ⟨b, off + m * 6 + 1, none⟩) hbl).trans h1
      have x2 := (HB.out.cell (p := ⟨b, off + m * 6 + 2, none⟩) hbl).trans h2
      have x3 := (HB.out.cell (p := ⟨b, off + m * 6 + 3, none⟩) hbl).trans h3
      have x4 := (HB.out.cell (p := ⟨b, off + m * 6 + 4, none⟩) hbl).trans h4
      have x5 := (HB.out.cell (p := ⟨b, off + m * 6 + 5, none⟩) hbl).trans h5
      have hc1 := HC.out wr HB.out
      have HP := Lib.hid (allowsF_any t a c wr hc1)
      have hrv : ruV t = .agg #[.int .i64 t.who, .string (Mt.str t.dn), .string (Mt.str t.wh), .string (Mt.str t.att), .int .i64 t.rights, .bool t.allow] := rfl
      rw [hrv] at HP
      obtain ⟨q, hq⟩ : ∃ q, Mt.attP a t = q := ⟨_, rfl⟩
      rw [hq] at HP
      have HQ : Hid (Mt.attP a r[m] = q) := Lib.hid (by rw [ht]; exact hq)
      have HH : Hid (q = true → k = m) := Lib.hid (by
        intro h
        rcases HD.out with ⟨_, h2⟩ | ⟨m2, rfl, hm2, h3, h4⟩
        · have := h2 m hmr; rw [HQ.out, h] at this; cases this
        · by_cases e : m2 = m
          · rw [e]
          · rcases Nat.lt_or_ge m2 m with h5 | h5
            · have := HO.out m2 hm2 h5; rw [h3] at this; cases this
            · have := h4 m (by omega); rw [HQ.out, h] at this; cases this)
      have HO2 : Hid (q = false → ∀ j (hj : j < r.length), j < m + 1 → Mt.attP a r[j] = false) := Lib.hid (by
        intro h j hj hlt2
        by_cases e : j = m
        · subst e; rw [HQ.out, h]
        · exact HO.out j hj (by omega))
      have d1 : decide ((m : Int) < (m0 : Int)) = true := decide_eq_true (by omega)
      have d2 : decide (m < m0) = true := decide_eq_true hlt
      clear hq hc1 hbl h0 h1 h2 h3 h4 h5 HQ ht hmr hrv
      generalize Mt.str t.dn = DB at *
      generalize Mt.str t.wh = WB at *
      generalize Mt.str t.att = AB at *
      go_wp2_with fail
      refine (HP.out).mono ?_
      rintro e w2 ⟨rfl, hb⟩
      have HB2 := Lib.hid (HB.out.trans (hb.mono HB.out.size))
      clear hb
      cases q
      · go_wp2_with fail
        go_roundw
        case rel => exact ⟨m + 1, by omega, by go_num, Lib.hid (HO2.out (by first | rfl | trivial)), HB2⟩
        case measure => simp [intOf]; omega
      · have hk : k = m := HH.out (by first | rfl | trivial)
        subst hk
        go_wp2_with fail
        all_goals (go_ret; exact ⟨rfl, HB2.out⟩)
    · obtain rfl : m = m0 := by omega
      have d1 : decide ((m : Int) < (m : Int)) = false := decide_eq_false (by omega)
      have d2 : decide (m < m) = false := decide_eq_false (by omega)
      have HQ : Hid (k = -1) := Lib.hid (by
        rcases HD.out with ⟨h, _⟩ | ⟨m2, rfl, hm2, h3, h4⟩
        · exact h
        · have := HO.out m2 hm2 (by rw [← HL.out]; exact hm2); rw [h3] at this; cases this)
      go_wp2_with fail
      all_goals (go_ret; exact ⟨by rw [HQ.out]; rfl, HB.out⟩)
theorem Mt.allows_at (cs : List Mt.Ru) (a : List UInt8) : (Mt.atL (Mt.attP a) cs = -1 ∧ Mt.allowsA cs a = false) ∨ ∃ k : Nat, Mt.atL (Mt.attP a) cs = k ∧ ∃ hk : k < cs.length, Mt.allowsA cs a = cs[k].allow := by
  unfold Mt.allowsA
  rcases Mt.atL_spec (Mt.attP a) cs with ⟨h1, h2⟩ | ⟨m, h1, hm, h2, h3⟩
  · refine .inl ⟨h1, ?_⟩
    have : cs.find? (Mt.attP a) = none := by
      rw [List.find?_eq_none]
      intro x hx
      obtain ⟨j, hj, rfl⟩ := List.mem_iff_getElem.1 hx
      rw [h2 j hj]; decide
    rw [this]
  · refine .inr ⟨m, h1, hm, ?_⟩
    have : cs.find? (Mt.attP a) = some cs[m] := by
      rw [List.find?_eq_some_iff_getElem]
      exact ⟨h2, m, hm, rfl, fun j hj => by rw [h3 j hj]; rfl⟩
    rw [this]
set_option maxRecDepth 100000 in
set_option maxHeartbeats 1000000 in
theorem allows_any {w : World} {v : Value} {r : List Mt.Ru} (hv : IsRus w v r) (a : List UInt8) (ha : a.length ≤ 140737488351232) (hn : r.length ≤ 4398046511104) :
    Calls Tryz.prog 29 #[v, .string (Mt.str a)] w fun e w' => e = .returned (.bool (Mt.allowsA r a)) ∧ Below w.heap.size w w' := by
  have HF := Lib.hid (fold_any (Mt.str a) w (by rw [Mt.str_size]; omega))
  rw [Mt.str_data] at HF
  have hfo : Mt.str (a.map Mt.sm) = Mt.str (Mt.foldL a) := rfl
  rw [hfo] at HF
  have HIX := Lib.hid (fun (u : World) (hb : Below w.heap.size w u) (c : Nat) (hc : u.cell? ⟨c, 0, none⟩ = some (.string (Mt.str (Mt.foldL a)))) => indexClause_any (hv.below hb) a c hc hn)
  have HAT := Lib.hid (Mt.allows_at r a)
  obtain ⟨k, hk⟩ : ∃ k, Mt.atL (Mt.attP a) r = k := ⟨_, rfl⟩
  obtain ⟨Z, hZ⟩ : ∃ k, Mt.allowsA r a = k := ⟨_, rfl⟩
  rw [hk] at HIX HAT
  rw [hZ] at HAT ⊢
  obtain ⟨ad, cap, rfl, hcap, hcell⟩ := hv
  obtain ⟨FB, hFB⟩ : ∃ b, Mt.str (Mt.foldL a) = b := ⟨_, rfl⟩
  rw [hFB] at HF HIX
  obtain ⟨n, hn1⟩ : ∃ n, r.length = n := ⟨_, rfl⟩
  have HNN := Lib.hid hn1
  rw [hn1] at hcap hn HIX ⊢
  generalize Mt.str a = AB at *
  clear hk hZ hFB hfo ha hn1
  go_enter Tryz.func29, Tryz.ntmps29
  go_wp2_with fail
  refine (HF.out).mono ?_
  rintro e w2 ⟨rfl, hb⟩
  obtain ⟨w3, hw3⟩ : ∃ u, w2.alloc (.cells #[.string FB] 9) = u := ⟨_, rfl⟩
  have hB3 : Below w.heap.size w w3 := by rw [← hw3]; exact hb.alloc hb.size _
  have hc3 : w3.cell? ⟨w2.heap.size, 0, none⟩ = some (.string FB) := by rw [← hw3, cell_of_row _ _ _ _ _ _ (heap_alloc_new w2 _)]; rfl
  have HB3 := Lib.hid hB3
  have HI3 := Lib.hid (HIX.out w3 hB3 _ hc3)
  clear hb hB3 hc3
  go_wp2_with fail
  refine (HI3.out).mono ?_
  rintro e w4 ⟨rfl, hb⟩
  have HB4 := Lib.hid (HB3.out.trans (hb.mono HB3.out.size))
  clear hb
  rcases HAT.out with ⟨h1, h2⟩ | ⟨j, h1, hj, h2⟩
  · have d1 : decide (k ≥ 0) = false := decide_eq_false (by omega)
    have d2 : decide (0 ≤ k) = false := decide_eq_false (by omega)
    have HZ := Lib.hid h2
    clear h1 h2
    go_wp2_with fail
    all_goals (go_ret; exact ⟨by rw [HZ.out]; rfl, HB4.out⟩)
  · subst h1
    have d1 : decide ((j : Int) ≥ 0) = true := decide_eq_true (by omega)
    have d2 : decide (0 ≤ (j : Int)) = true := decide_eq_true (by omega)
    have j0 : (0 : Int) ≤ (j : Int) := by omega
    have j1 : (j : Int) < (n : Int) := by rw [HNN.out] at hj; omega
    obtain ⟨b, off, e0, hbl, -, -, -, -, -, h5⟩ := hcell.out j hj
    subst e0
    have x5 := (HB4.out.cell (p := ⟨b, off + j * 6 + 5, none⟩) hbl).trans h5
    rw [← h2] at x5
    clear h2 hbl h5 hj
    go_wp2_with fail
    all_goals (go_ret; exact ⟨rfl, HB4.out⟩)
end Go.Proofs.YtngdbhncafnliaaGreat

/-
  Whether somebody may do something.
-/
namespace Go.Proofs.YtngdbhncafnliaaGreat
open Go.RowKit

/-- What the rules that speak of somebody come to. -/
def AboutC (w : World) (bv v1 v2 : Value) (right : Int) (L : List Mt.Ru) : Prop := ∀ u, Below w.heap.size w u → Calls Tryz.prog 30 #[bv, v1, v2, .int .i64 right] u fun e w' => ∃ a n c, e = .returned (.slice a n c) ∧ IsRus w' (.slice a n c) L ∧ Below u.heap.size u w'
theorem AboutC.below {w u : World} {bv v1 v2 : Value} {right : Int} {L : List Mt.Ru} (h : AboutC w bv v1 v2 right L) (hb : Below w.heap.size w u) : AboutC u bv v1 v2 right L := fun x hx => h x (hb.trans (hx.mono hb.size))
theorem IsRus.nil (w : World) : IsRus w (.slice none 0 0) [] := ⟨none, 0, rfl, by simp, Lib.hid fun j hj => absurd hj (by simp)⟩
theorem aboutC_nil (w : World) (v1 v2 : Value) (right : Int) : AboutC w (.pointer none) v1 v2 right [] := fun u _ => by
  refine (about_nil v1 v2 right u).mono ?_
  rintro e w' ⟨rfl, hb⟩
  exact ⟨none, 0, 0, rfl, IsRus.nil _, hb⟩
/-- A book of rules in memory. -/
def IsBk (w : World) (bv : Value) (cs : List Mt.Ru) : Prop := ∃ p cv, bv = .pointer (some ⟨p, 0, none⟩) ∧ w.heap[p]? = some (.cells #[cv] 64) ∧ IsRus w cv cs ∧ cs.length * 72 ≤ 140737488355328
theorem IsBk.below {w u : World} {bv : Value} {cs : List Mt.Ru} (h : IsBk w bv cs) (hb : Below w.heap.size w u) : IsBk u bv cs := by
  obtain ⟨p, cv, e, hp, hc, hl⟩ := h
  exact ⟨p, cv, e, (hb.block p (lt_of_block hp)).trans hp, hc.below hb, hl⟩
theorem aboutC_any {w : World} {bv v1 v2 : Value} {cs : List Mt.Ru} {d1 d2 : List (List Mt.Av)} (right : Int) (h : IsBk w bv cs) (h1 : IsDn w v1 d1) (h2 : IsDn w v2 d2) (hl1 : d1.length ≤ 140737488355327) (hl2 : d2.length ≤ 140737488355327) : AboutC w bv v1 v2 right (Mt.aboutA cs d1 d2 right) := fun u hu => by
  obtain ⟨p, cv, rfl, hp, hc, hl⟩ := h
  refine (about_any (right := right) ((hu.block p (lt_of_block hp)).trans hp) (hc.below hu) hl (h1.below hu) (h2.below hu) hl1 hl2).mono ?_
  rintro e w' ⟨a, n, c, rfl, ho, hb⟩
  exact ⟨a, n, c, rfl, IsOwn.rus ho, hb⟩
theorem Mt.about_len (cs : List Mt.Ru) (d1 d2 : List (List Mt.Av)) (right : Int) : (Mt.aboutA cs d1 d2 right).length ≤ cs.length := by
  unfold Mt.aboutA; split
  · exact List.length_filter_le _ _
  · simp
set_option maxRecDepth 100000 in
set_option maxHeartbeats 1000000 in
theorem may_of {w : World} {bv v1 v2 : Value} {right : Int} {L : List Mt.Ru} (h : AboutC w bv v1 v2 right L) (hl : L.length ≤ 4398046511104) (a : List UInt8) (ha : a.length ≤ 140737488351232) :
    Calls Tryz.prog 13 #[bv, v1, v2, .string (Mt.str a), .int .i64 right] w fun e w' => e = .returned (.bool (Mt.allowsA L a)) ∧ Below w.heap.size w w' := by
  have HAB := Lib.hid (h w (Below.refl _ _))
  have HAL := Lib.hid (fun (u : World) (v : Value) (hv : IsRus u v L) => allows_any hv a ha hl)
  obtain ⟨Z, hZ⟩ : ∃ z, Mt.allowsA L a = z := ⟨_, rfl⟩
  rw [hZ] at HAL ⊢
  generalize Mt.str a = AB at *
  clear h ha hl hZ
  go_enter Tryz.func13, Tryz.ntmps13
  go_wp2_with fail
  refine (HAB.out).mono ?_
  rintro e w2 ⟨a2, n2, c2, rfl, hr, hb⟩
  have HB2 := Lib.hid hb
  have HC := Lib.hid (HAL.out _ _ hr)
  clear hb hr
  go_wp2_with fail
  refine (HC.out).mono ?_
  rintro e w3 ⟨rfl, hb⟩
  have HB3 := Lib.hid (HB2.out.trans (hb.mono HB2.out.size))
  clear hb
  go_wp2_with fail
  all_goals (go_ret; exact ⟨rfl, HB3.out⟩)
theorem may22_any {w : World} {bv v1 v2 : Value} {cs : List Mt.Ru} {d1 d2 : List (List Mt.Av)} (right : Int) (h : IsBk w bv cs) (h1 : IsDn w v1 d1) (h2 : IsDn w v2 d2) (hl1 : d1.length ≤ 140737488355327) (hl2 : d2.length ≤ 140737488355327) (a : List UInt8) (ha : a.length ≤ 140737488351232) :
    Calls Tryz.prog 13 #[bv, v1, v2, .string (Mt.str a), .int .i64 right] w fun e w' => e = .returned (.bool (Mt.mayA cs d1 d2 a right)) ∧ Below w.heap.size w w' :=
  may_of (aboutC_any right h h1 h2 hl1 hl2) (by have := Mt.about_len cs d1 d2 right; obtain ⟨p, cv, -, -, -, hl⟩ := h; omega) a ha

set_option maxRecDepth 100000 in
set_option maxHeartbeats 1000000 in
theorem allF_any {w : World} {cv : Value} {L : List Mt.Ru} (hc : IsRus w cv L) (hl : L.length ≤ 4398046511104) (q : Nat) (hq : w.cell? ⟨q, 0, none⟩ = some cv) (a : List UInt8) (ha : a.length ≤ 140737488351232) :
    Calls Tryz.prog 34 #[.string (Mt.str a), .pointer (some ⟨q, 0, none⟩)] w fun e w' => e = .returned (.bool (!Mt.allowsA L a)) ∧ Below w.heap.size w w' := by
  have HAL := Lib.hid (allows_any hc a ha hl)
  obtain ⟨Z, hZ⟩ : ∃ z, Mt.allowsA L a = z := ⟨_, rfl⟩
  rw [hZ] at HAL ⊢
  obtain ⟨ad, cap, rfl, -, -⟩ := hc
  generalize Mt.str a = AB at *
  clear ha hl hZ
  go_enter Tryz.func34, Tryz.ntmps34
  go_wp2_with fail
  refine (HAL.out).mono ?_
  rintro e w3 ⟨rfl, hb⟩
  have HB3 := Lib.hid hb
  clear hb
  go_wp2_with fail
  all_goals (go_ret; exact ⟨rfl, HB3.out⟩)
set_option maxRecDepth 100000 in
set_option maxHeartbeats 1000000 in
theorem containsAll_any {w : World} {cv nv : Value} {L : List Mt.Ru} {ns : List (List UInt8)} (hc : IsRus w cv L) (hl : L.length ≤ 4398046511104) (q : Nat) (hq : w.cell? ⟨q, 0, none⟩ = some cv) (hn : IsNms w nv ns) (hnl : ns.length ≤ 8796093022208) (hna : ∀ a ∈ ns, a.length ≤ 140737488351232) :
    Calls Tryz.prog 35 #[nv, .func (.func 34) #[] #[.pointer (some ⟨q, 0, none⟩)]] w fun e w' => e = .returned (.bool (!ns.all (Mt.allowsA L))) ∧ Below w.heap.size w w' := by
  have HF := Lib.hid (fun (u : World) (hb : Below w.heap.size w u) (a : List UInt8) (ha : a.length ≤ 140737488351232) => allF_any (hc.below hb) hl q ((hb.cell (p := ⟨q, 0, none⟩) (World.block_lt_of_cell? w ⟨q, 0, none⟩ hq)).trans hq) a ha)
  obtain ⟨ad, cap, rfl, hcap, hcell⟩ := hn
  have hd := Mt.atL_spec (fun x : List UInt8 => !Mt.allowsA L x) ns
  have hany := Mt.atL_any (fun x : List UInt8 => !Mt.allowsA L x) ns
  have hmem : ns.any (fun x => !Mt.allowsA L x) = !ns.all (Mt.allowsA L) := by
    rw [List.not_all_eq_any_not]
  obtain ⟨k, hk⟩ : ∃ q, Mt.atL (fun x : List UInt8 => !Mt.allowsA L x) ns = q := ⟨_, rfl⟩
  rw [hk] at hd hany
  rw [← hmem, ← hany]
  obtain ⟨z, hz⟩ : ∃ z, decide (0 ≤ k) = z := ⟨_, rfl⟩
  rw [hz]
  have HD := Lib.hid hd
  have HZ := Lib.hid hz
  have HNA := Lib.hid hna
  clear hd hany hmem hk hz hc hl hq hna
  obtain ⟨m0, hm0⟩ : ∃ m, ns.length = m := ⟨_, rfl⟩
  have HL := Lib.hid hm0
  rw [hm0] at hnl ⊢
  clear hm0 hcap
  have HIDX : Hid (Calls Tryz.prog 55 #[.slice ad m0 cap, .func (.func 34) #[] #[.pointer (some ⟨q, 0, none⟩)]] w fun e w' => e = .returned (.int .i64 k) ∧ Below w.heap.size w w') := by
    refine Lib.hid ?_
    go_enter Tryz.func55, Tryz.ntmps55
    go_wp2_with fail
    go_loopw [8] (fun i wr => ∃ m : Nat, m ≤ m0 ∧ i = .int .i64 m ∧ Hid (∀ j (hj : j < ns.length), j < m → (!Mt.allowsA L ns[j]) = false) ∧ Hid (Below w.heap.size w wr))
      (fun i _ => m0 - (intOf i).toNat)
    case atStart => exact ⟨0, Nat.zero_le _, rfl, Lib.hid fun j _ h => absurd h (Nat.not_lt_zero _), Lib.hid (Below.refl _ _)⟩
    case round =>
      obtain ⟨m, hm, rfl, HO, HB⟩ := hrel
      by_cases hlt : m < m0
      · have hmr : m < ns.length := by rw [HL.out]; exact hlt
        obtain ⟨b, off, e0, hbl, h0⟩ := hcell.out m hmr
        subst e0
        have x0 := (HB.out.cell (p := ⟨b, off + m, none⟩) hbl).trans h0
        have HC := Lib.hid (HF.out wr HB.out ns[m] (HNA.out _ (List.getElem_mem hmr)))
        obtain ⟨t, ht⟩ : ∃ t, ns[m] = t := ⟨_, rfl⟩
        rw [ht] at x0 HC
        obtain ⟨y, hy⟩ : ∃ y, Mt.allowsA L t = y := ⟨_, rfl⟩
        rw [hy] at HC
        have HY : Hid (Mt.allowsA L ns[m] = y) := Lib.hid (by rw [ht]; exact hy)
        have d1 : decide ((m : Int) < (m0 : Int)) = true := decide_eq_true (by omega)
        have d2 : decide (m < m0) = true := decide_eq_true hlt
        have i0 : (0 : Int) ≤ (m : Int) := by omega
        have HQ : Hid (y = false → k = m) := Lib.hid (by
          intro h
          rcases HD.out with ⟨_, h2⟩ | ⟨m2, rfl, hm2, h3, h4⟩
          · have := h2 m hmr; rw [HY.out, h] at this; cases this
          · by_cases e : m2 = m
            · rw [e]
            · rcases Nat.lt_or_ge m2 m with h5 | h5
              · have := HO.out m2 hm2 h5; rw [h3] at this; cases this
              · have := h4 m (by omega); rw [HY.out, h] at this; cases this)
        have HO2 : Hid (y = true → ∀ j (hj : j < ns.length), j < m + 1 → (!Mt.allowsA L ns[j]) = false) := Lib.hid (by
          intro h j hj hlt2
          by_cases e : j = m
          · subst e; rw [HY.out, h]; rfl
          · exact HO.out j hj (by omega))
        generalize Mt.str t = TB at *
        clear hbl h0 hmr hy ht HY
        go_wp2_with fail
        refine (HC.out).mono ?_
        rintro e w2 ⟨rfl, hb⟩
        have HB2 := Lib.hid (HB.out.trans (hb.mono HB.out.size))
        clear hb
        cases y with
        | false =>
          have hk2 : k = m := HQ.out (by first | rfl | trivial)
          subst hk2
          go_wp2_with fail
          all_goals (go_ret; exact ⟨rfl, HB2.out⟩)
        | true =>
          have HO3 := Lib.hid (HO2.out (by first | rfl | trivial))
          go_wp2_with fail
          go_roundw
          case rel => exact ⟨m + 1, by omega, by go_num, HO3, HB2⟩
          case measure => simp [intOf]; omega
      · obtain rfl : m = m0 := by omega
        have d1 : decide ((m : Int) < (m : Int)) = false := decide_eq_false (by omega)
        have d2 : decide (m < m) = false := decide_eq_false (by omega)
        have HQ : Hid (k = -1) := Lib.hid (by
          rcases HD.out with ⟨h, _⟩ | ⟨m2, rfl, hm2, h3, h4⟩
          · exact h
          · have := HO.out m2 hm2 (by rw [← HL.out]; exact hm2); rw [h3] at this; cases this)
        go_wp2_with fail
        all_goals (go_ret; exact ⟨by rw [HQ.out]; rfl, HB.out⟩)
  have hz2 : decide (k ≥ 0) = z := HZ.out
  have hz3 : decide (0 ≤ k) = z := HZ.out
  go_enter Tryz.func35, Tryz.ntmps35
  go_wp2_with fail
  refine (HIDX.out).mono ?_
  rintro e w2 ⟨rfl, hb⟩
  have HB2 := Lib.hid hb
  clear hb
  go_wp2_with fail
  all_goals (go_ret; exact ⟨by first | rfl | (rw [HZ.out]), HB2.out⟩)
set_option maxRecDepth 100000 in
set_option maxHeartbeats 1000000 in
theorem all_of {w : World} {bv v1 v2 nv : Value} {right : Int} {L : List Mt.Ru} {ns : List (List UInt8)} (h : AboutC w bv v1 v2 right L) (hl : L.length ≤ 4398046511104) (hn : IsNms w nv ns) (hnl : ns.length ≤ 8796093022208) (hna : ∀ a ∈ ns, a.length ≤ 140737488351232) :
    Calls Tryz.prog 20 #[bv, v1, v2, .int .i64 right, nv] w fun e w' => e = .returned (.bool (Mt.allowsA L [] && ns.all (Mt.allowsA L))) ∧ Below w.heap.size w w' := by
  have HAB := Lib.hid (h w (Below.refl _ _))
  have HAL := Lib.hid (fun (u : World) (v : Value) (hv : IsRus u v L) => allows_any hv [] (by simp) hl)
  have hs0 : Mt.str [] = ⟨#[]⟩ := rfl
  rw [hs0] at HAL
  have HCO := Lib.hid (fun (u : World) (hb : Below w.heap.size w u) (v : Value) (hv : IsRus u v L) (q : Nat) (hq : u.cell? ⟨q, 0, none⟩ = some v) => containsAll_any hv hl q hq (hn.below hb) hnl hna)
  obtain ⟨Z, hZ⟩ : ∃ z, Mt.allowsA L [] = z := ⟨_, rfl⟩
  obtain ⟨Y, hY⟩ : ∃ z, ns.all (Mt.allowsA L) = z := ⟨_, rfl⟩
  rw [hZ] at HAL ⊢
  rw [hY] at HCO ⊢
  obtain ⟨na, nc, rfl, hnc, -⟩ := hn
  generalize ns.length = nn at *
  clear h hl hZ hY hs0 hna hnl hnc
  go_enter Tryz.func20, Tryz.ntmps20
  go_wp2_with fail
  refine (HAB.out).mono ?_
  rintro e w2 ⟨a2, n2, c2, rfl, hr, hb⟩
  obtain ⟨w3, hw3⟩ : ∃ u, w2.alloc (.cells #[.slice a2 n2 c2] 62) = u := ⟨_, rfl⟩
  have hn3 : Below w2.heap.size w2 w3 := by rw [← hw3]; exact (Below.refl _ w2).alloc (Nat.le_refl _) _
  have hB3 : Below w.heap.size w w3 := hb.trans (hn3.mono hb.size)
  have c3 : w3.cell? ⟨w2.heap.size, 0, none⟩ = some (.slice a2 n2 c2) := by rw [← hw3, cell_of_row _ _ _ _ _ _ (heap_alloc_new w2 _)]; rfl
  have hlt : w2.heap.size < w3.heap.size := by rw [← hw3]; simp
  have HB3 := Lib.hid hB3
  have HR3 := Lib.hid (hr.below hn3)
  have HA3 := Lib.hid (HAL.out _ _ HR3.out)
  have HC3 : Hid (∀ u, Below w3.heap.size w3 u → u.cell? ⟨w2.heap.size, 0, none⟩ = some (.slice a2 n2 c2)) := Lib.hid (fun u hu => (hu.cell (p := ⟨w2.heap.size, 0, none⟩) hlt).trans c3)
  clear hb hn3 hB3 hr hlt
  go_wp2_with fail
  refine (HA3.out).mono ?_
  rintro e w4 ⟨rfl, hb⟩
  have HB4 := Lib.hid (HB3.out.trans (hb.mono HB3.out.size))
  have c4 := HC3.out w4 hb
  have HO4 := Lib.hid (HCO.out _ HB4.out _ (HR3.out.below hb) _ c4)
  clear hb c3
  cases Z with
  | false =>
    go_wp2_with fail
    all_goals (go_ret; exact ⟨rfl, HB4.out⟩)
  | true =>
    go_wp2_with fail
    refine (HO4.out).mono ?_
    rintro e w5 ⟨rfl, hb⟩
    have HB5 := Lib.hid (HB4.out.trans (hb.mono HB4.out.size))
    clear hb
    go_wp2_with fail
    all_goals (go_ret; exact ⟨by first | rfl | simp, HB5.out⟩)
end Go.Proofs.YtngdbhncafnliaaGreat
