/-
  Some texts of one proof, one behind the other.
-/
import Derived.Test.YtngdbhncafnliaaGreatPk45
set_option linter.unusedVariables false
set_option linter.unusedSimpArgs false

/-
  A book of rules that are read.
-/
namespace Go.Proofs.YtngdbhncafnliaaGreat
open Go.RowKit
set_option linter.unusedVariables false

/-- A book under work: the row of its clauses lies behind it. -/
def BkS (u : World) (p : Nat) (a : Option Addr) (n c : Nat) (L : List Mt.Ru) : Prop := u.heap[p]? = some (.cells #[.slice a n c] 64) ∧ IsOwn 66 6 (p + 1) u (.slice a n c) n (ruCells L) ∧ L.length = n
theorem BkS.below {u u' : World} {p n c : Nat} {a : Option Addr} {L : List Mt.Ru} (h : BkS u p a n c L) (hb : Below u.heap.size u u') : BkS u' p a n c L :=
  ⟨(hb.block p (lt_of_block h.1)).trans h.1, h.2.1.below hb, h.2.2⟩
theorem IsOwn.setAt {E : TypeId} {sz base p n : Nat} {w : World} {v x : Value} {xs : List Value} (h : IsOwn E sz base w v n xs) (hp : p < base) : IsOwn E sz base (w.setCell ⟨p, 0, none⟩ x) v n xs := by
  obtain ⟨g, hg, hl, h⟩ := h
  refine ⟨g, hg, hl, ?_⟩
  rcases h with h | ⟨off, cap, cur, h1, h2, h3⟩
  · exact .inl h
  · exact .inr ⟨off, cap, cur, h1, (heap_setCell_other _ _ _ _ (by show g ≠ p; omega)).trans h2, h3⟩
theorem bk_push {u : World} {p n c : Nat} {a : Option Addr} {L : List Mt.Ru} (h : BkS u p a n c L) (r : Mt.Ru) (hn : (n + 1) * 72 ≤ 140737488355328) :
    ∃ a3 c3 w8, (∀ ty, (Builtin.append_ #[62, 62] ty #[.slice a n c, .slice (some ⟨u.heap.size, 0, none⟩) 1 1]).run Tryz.prog ((u.alloc (.cells #[.int .i64 r.who, .string (Mt.str r.dn), .string (Mt.str r.wh), .string (Mt.str r.att), .int .i64 r.rights, .bool r.allow] 66)).drew) = .ok (.slice a3 (n + 1) c3) w8) ∧ w8.cell? ⟨p, 0, none⟩ = some (.slice a n c) ∧ w8.frozen? ⟨p, 0, none⟩ = false ∧ BkS (w8.setCell ⟨p, 0, none⟩ (.slice a3 (n + 1) c3)) p a3 (n + 1) c3 (L ++ [r]) ∧ Below p u (w8.setCell ⟨p, 0, none⟩ (.slice a3 (n + 1) c3)) ∧ u.heap.size ≤ (w8.setCell ⟨p, 0, none⟩ (.slice a3 (n + 1) c3)).heap.size := by
  obtain ⟨h1, h2, h3⟩ := h
  have hpl := lt_of_block h1
  obtain ⟨i0, hi, hz0, hz1, hz2⟩ := info_parts Tryz.infoClause
  have hd : Below u.heap.size u u.drew := (Below.refl _ u).drew
  obtain ⟨a3, c3, w8, hrun, hown, hb8⟩ := own_push (T := 62) (tx := 62) Tryz.underlying62 Tryz.underlying62 hi hz0 hz1 hz2 rfl (h2.below hd) (w := u.drew) (by show p + 1 ≤ u.heap.size; omega) (ruCells_one _) #[.int .i64 r.who, .string (Mt.str r.dn), .string (Mt.str r.wh), .string (Mt.str r.att), .int .i64 r.rights, .bool r.allow] rfl (by simp [Value.oneCell']) hn (by omega)
  have hrow : w8.heap[p]? = some (.cells #[.slice a n c] 64) := (hb8.block p (by omega)).trans ((hd.block p hpl).trans h1)
  have hset := heap_setCell_same w8 p 0 _ 64 (.slice a3 (n + 1) c3) hrow
  refine ⟨a3, c3, w8, hrun, by rw [cell_of_row _ _ _ _ _ _ hrow]; rfl, frozen_of_row _ _ 0 _ _ hrow, ⟨hset, ?_, by rw [List.length_append, h3]; rfl⟩, ?_, ?_⟩
  · have e : ruCells (L ++ [r]) = ruCells L ++ (#[.int .i64 r.who, .string (Mt.str r.dn), .string (Mt.str r.wh), .string (Mt.str r.att), .int .i64 r.rights, .bool r.allow] : Array Value).toList := by
      unfold ruCells; rw [List.flatMap_append]; simp [ruVs]
    rw [e]
    exact hown.setAt (by omega)
  · have k1 : Below p u u.drew := hd.mono (Nat.le_of_lt hpl)
    have k2 : Below p u.drew w8 := hb8.mono (Nat.le_succ p)
    exact (k1.trans k2).setCell (p := ⟨p, 0, none⟩) (Nat.le_refl _) _
  · exact Nat.le_trans hb8.size (by simp)
/-- What New answers. -/
def NewP (w : World) (R : Except Nat (List Mt.Ru)) (e : Ending) (w' : World) : Prop := match R with
  | .error x => e = .returned (.tuple #[.pointer none, .int .i64 x])
  | .ok cs => ∃ bv, e = .returned (.tuple #[bv, .int .i64 0]) ∧ IsBk w' bv cs
theorem NewP.err {w w' : World} {R : Except Nat (List Mt.Ru)} {x : Nat} {e : Ending} (h : R = .error x) (he : e = .returned (.tuple #[.pointer none, .int .i64 x])) : NewP w R e w' := by subst h; exact he
theorem NewP.ok {w w' : World} {R : Except Nat (List Mt.Ru)} {L : List Mt.Ru} {p n c : Nat} {a : Option Addr} {e : Ending} (h : R = .ok L) (hb : BkS w' p a n c L) (hl : n * 72 ≤ 140737488355328) (he : e = .returned (.tuple #[.pointer (some ⟨p, 0, none⟩), .int .i64 0])) : NewP w R e w' := by
  subst h
  obtain ⟨h1, h2, h3⟩ := hb
  have h2' : IsRus w' (.slice a n c) L := IsOwn.rus (by rw [h3]; exact h2)
  exact ⟨_, he, p, _, rfl, h1, h2', by rw [h3]; exact hl⟩
theorem Mt.rdF_step (s : Mt.Sc) (L rs : List Mt.Ru) {i : Nat} (h : i < rs.length) : Mt.rdF s L (rs.drop i) = match Mt.rdRu s rs[i] with
    | .error e => .error e
    | .ok c => Mt.rdF s (L ++ [c]) (rs.drop (i + 1)) := by
  rw [List.drop_eq_getElem_cons h]; rfl
theorem Mt.rdRu_err {s : Mt.Sc} {r : Mt.Ru} {e : Nat} (h : Mt.rdRu s r = .error e) : 0 < e := by
  unfold Mt.rdRu at h
  split at h
  · cases h; omega
  split at h
  · cases h; exact Mt.keyL_err (by assumption)
  split at h
  · cases h; omega
  split at h
  · cases h; exact Mt.keyL_err (by assumption)
  split at h
  · cases h; omega
  split at h
  · cases h; omega
  · cases h
set_option maxRecDepth 100000 in
set_option maxHeartbeats 8000000 in
theorem new22_big {tv cv av rv : Value} {s : Mt.Sc} {admin : List (List Mt.Av)} {rs : List Mt.Ru} {w : World} (h : IsSc w tv cv s) (ha : IsDn w av admin) (hr : IsRus w rv rs) (hf : ∀ r ∈ rs, Mt.FitRu r) (hl : rs.length * 72 ≤ 140737488355000) :
    Calls Tryz.prog 10 #[.agg #[tv, cv], av, rv] w fun e w' => NewP w (Mt.newA s admin rs) e w' ∧ Below w.heap.size w w' := by
  have HN := Lib.hid (fun (u : World) (hu : Below w.heap.size w u) => norm_any (ha.below hu))
  have HRD := Lib.hid (fun (r : Mt.Ru) (hfr : Mt.FitRu r) (u : World) (hu : Below w.heap.size w u) => read22_any r hfr (h.below hu))
  have HFR := Lib.hid hf
  obtain ⟨RR, hRR⟩ : ∃ x, Mt.newA s admin rs = x := ⟨_, rfl⟩
  rw [hRR]
  have hun := hRR
  unfold Mt.newA at hun
  obtain ⟨ta, tcap, hv1, -, -⟩ := h.types
  obtain ⟨ca, ccap, hv2, -, -⟩ := h.classes
  obtain ⟨tn, htn⟩ : ∃ n, s.types.length = n := ⟨_, rfl⟩
  obtain ⟨cn, hcn⟩ : ∃ n, s.classes.length = n := ⟨_, rfl⟩
  rw [htn] at hv1
  rw [hcn] at hv2
  subst hv1 hv2
  obtain ⟨ada, adc, rfl, -, -, -⟩ := ha
  obtain ⟨ra, rc, rfl, hrc, HRS⟩ := hr
  have HAE : Hid ((admin.length = 0 → Mt.adminC admin = []) ∧ (admin.length ≠ 0 → Mt.adminC admin = [⟨3, Mt.kyL admin, [], [], 15, true⟩])) := Lib.hid ⟨fun h => by unfold Mt.adminC; rw [if_pos (List.eq_nil_of_length_eq_zero h)], fun h => by unfold Mt.adminC; rw [if_neg (fun e => h (by rw [e]; rfl))]⟩
  obtain ⟨m, hm⟩ : ∃ m, rs.length = m := ⟨_, rfl⟩
  have HM := Lib.hid hm
  rw [hm] at hrc hl ⊢
  obtain ⟨w1, hw1⟩ : ∃ u, w.alloc (.cells #[.slice ta tn tcap, .slice ca cn ccap] 35) = u := ⟨_, rfl⟩
  have hA1 : Below w.heap.size w w1 := by rw [← hw1]; exact (Below.refl _ w).alloc (Nat.le_refl _) _
  have hx1 : w1.heap[w.heap.size]? = some (.cells #[.slice ta tn tcap, .slice ca cn ccap] 35) := by rw [← hw1]; exact heap_alloc_new w _
  have hs1 : w1.heap.size = w.heap.size + 1 := by rw [← hw1]; simp
  have HA1 := Lib.hid hA1
  have HX : Hid (∀ u, Below w1.heap.size w1 u → (u.cell? ⟨w.heap.size, 0, none⟩ = some (.slice ta tn tcap) ∧ u.cell? ⟨w.heap.size, 1, none⟩ = some (.slice ca cn ccap)) ∧ Below w.heap.size w u) := Lib.hid (fun u hu =>
    ⟨box2_of22 ((hu.block w.heap.size (by omega)).trans hx1), hA1.trans (hu.mono hA1.size)⟩)
  have hN1 := HN.out w1 hA1
  clear h hf hRR hA1 hx1 htn hcn hm
  cases hk : Mt.keyD admin with
  | error e1 =>
    rw [hk] at hun hN1
    unfold textV at hN1
    have hep := Mt.key_err hk
    have hei : ((e1 : Int) != 0) = true := by simp; omega
    have HE := Lib.hid (show RR = .error e1 from hun.symm)
    have HN1 := Lib.hid hN1
    clear hk hun hN1 hep
    go_enter Tryz.func10, Tryz.ntmps10
    go_wp2_with fail
    refine (HN1.out).mono ?_
    rintro e w2 ⟨rfl, hb⟩
    have HB2 := Lib.hid (HA1.out.trans (hb.mono HA1.out.size))
    clear hb
    go_wp2_with fail
    all_goals ((try rw [Exit.noGoto_ret]); go_ret2; exact ⟨NewP.err HE.out rfl, HB2.out⟩)
  | ok k1 =>
  rw [hk] at hun hN1
  unfold textV at hN1
  have hky := (Mt.ok_key hk).2
  have HRR0 := Lib.hid (show Mt.rdF s (Mt.adminC admin) (rs.drop 0) = RR from hun)
  rw [← hky] at HAE
  obtain ⟨KB, hKB⟩ : ∃ x, Mt.str k1 = x := ⟨_, rfl⟩
  simp only [hKB] at hN1
  have HKB := Lib.hid hKB
  have HN1 := Lib.hid hN1
  clear hk hun hN1 hky hKB
  go_enter Tryz.func10, Tryz.ntmps10
  go_wp2_with fail
  refine (HN1.out).mono ?_
  rintro e w2 ⟨rfl, hb⟩
  have HW2 : Hid (Below w1.heap.size w1 w2) := Lib.hid hb
  clear hb
  obtain ⟨w3, hw3⟩ : ∃ u, w2.alloc (.cells #[.slice none 0 0] 64) = u := ⟨_, rfl⟩
  have hA3 : Below w2.heap.size w2 w3 := by rw [← hw3]; exact (Below.refl _ w2).alloc (Nat.le_refl _) _
  have hx3 : w3.heap[w2.heap.size]? = some (.cells #[.slice none 0 0] 64) := by rw [← hw3]; exact heap_alloc_new w2 _
  have hs3 : w3.heap.size = w2.heap.size + 1 := by rw [← hw3]; simp
  obtain ⟨P, hP⟩ : ∃ P, w2.heap.size = P := ⟨_, rfl⟩
  rw [hP] at hx3 hs3
  have HPL : Hid (w1.heap.size ≤ P) := Lib.hid (by rw [← hP]; exact HW2.out.size)
  have HBK3 : Hid (BkS w3 P none 0 0 []) := Lib.hid ⟨hx3, by simpa [ruCells] using IsOwn.nil 66 6 (P + 1) w3, rfl⟩
  have HW3 := Lib.hid (HW2.out.trans (hA3.mono HW2.out.size))
  have HP2 := Lib.hid hP
  have HZ3 := Lib.hid hs3
  clear hA3 hx3 hs3
  go_upto_region 5 with fail
  try rw [HP2.out]
  clear hP
  obtain ⟨al, hal⟩ : ∃ n, admin.length = n := ⟨_, rfl⟩
  rw [hal] at HAE ⊢
  clear hal
  by_cases hz : al = 0
  · subst hz
    have d1 : decide ((0 : Int) < ((0 : Nat) : Int)) = false := rfl
    have HST0 : Hid (∃ (L : List Mt.Ru) (a : Option Addr) (n c : Nat), BkS w3 P a n c L ∧ n ≤ 0 + 1 ∧ Mt.rdF s L (rs.drop 0) = RR) := Lib.hid ⟨[], none, 0, 0, HBK3.out, by omega, by rw [← HAE.out.1 rfl]; exact HRR0.out⟩
    have HW0 := HW3
    go_wp2_with fail
    go_loopw [44] (fun iv wr => ∃ i : Nat, i ≤ m ∧ iv = .int .i64 (i : Int) ∧ Hid (∃ (L : List Mt.Ru) (a : Option Addr) (n c : Nat), BkS wr P a n c L ∧ n ≤ i + 1 ∧ Mt.rdF s L (rs.drop i) = RR) ∧ Hid (Below w1.heap.size w1 wr)) (fun iv _ => m - (intOf iv).toNat)
    case atStart => exact ⟨0, Nat.zero_le _, rfl, HST0, HW0⟩
    case round =>
      obtain ⟨i, hi, rfl, HST, HW⟩ := hrel
      obtain ⟨⟨p0, p1⟩, hB⟩ := HX.out wr HW.out
      have HB := Lib.hid hB
      clear hB
      by_cases hlt : i < m
      · have e1 : decide ((i : Int) < (m : Int)) = true := decide_eq_true (by omega)
        have e2 : decide (i < m) = true := decide_eq_true hlt
        have i0 : (0 : Int) ≤ (i : Int) := by omega
        have i1 : (i : Int) < (m : Int) := by omega
        have hil : i < rs.length := by rw [HM.out]; exact hlt
        obtain ⟨b, off, e0, hbl, h0, h1, h2, h3, h4, h5⟩ := HRS.out i hil
        subst e0
        have x0 := (HB.out.cell (p := ⟨b, off + i * 6, none⟩) hbl).trans h0
        have x1 := (HB.out.cell (p := ⟨b, off + i * 6 + 1, none⟩) hbl).trans h1
        have x2 := (HB.out.cell (p := ⟨b, off + i * 6 + 2, none⟩) hbl).trans h2
        have x3 := (HB.out.cell (p := ⟨b, off + i * 6 + 3, none⟩) hbl).trans h3
        have x4 := (HB.out.cell (p := ⟨b, off + i * 6 + 4, none⟩) hbl).trans h4
        have x5 := (HB.out.cell (p := ⟨b, off + i * 6 + 5, none⟩) hbl).trans h5
        obtain ⟨L, ba, bn, bc, hbk, hbn, hrd⟩ := HST.out
        rw [Mt.rdF_step s L rs hil] at hrd
        have hfr := HFR.out _ (List.getElem_mem hil)
        obtain ⟨r, hr⟩ : ∃ r, rs[i] = r := ⟨_, rfl⟩
        rw [hr] at x0 x1 x2 x3 x4 x5 hrd hfr
        have HCR := Lib.hid (HRD.out r hfr)
        have HBK := Lib.hid hbk
        obtain ⟨DB, hDB⟩ : ∃ x, Mt.str r.dn = x := ⟨_, rfl⟩
        obtain ⟨VB, hVB⟩ : ∃ x, Mt.str r.wh = x := ⟨_, rfl⟩
        obtain ⟨AB, hAB⟩ : ∃ x, Mt.str r.att = x := ⟨_, rfl⟩
        obtain ⟨wh, hwh⟩ : ∃ x, r.who = x := ⟨_, rfl⟩
        obtain ⟨ri, hri⟩ : ∃ x, r.rights = x := ⟨_, rfl⟩
        obtain ⟨al2, hal⟩ : ∃ x, r.allow = x := ⟨_, rfl⟩
        have hrv : ruV r = .agg #[.int .i64 wh, .string DB, .string VB, .string AB, .int .i64 ri, .bool al2] := by rw [← hDB, ← hVB, ← hAB, ← hwh, ← hri, ← hal]; rfl
        rw [hDB] at x1
        rw [hVB] at x2
        rw [hAB] at x3
        rw [hwh] at x0
        rw [hri] at x4
        rw [hal] at x5
        rw [hrv] at HCR
        obtain ⟨wa, hwa⟩ : ∃ u, wr.alloc (.cells #[.int .i64 wh, .string DB, .string VB, .string AB, .int .i64 ri, .bool al2] 54) = u := ⟨_, rfl⟩
        have hAa : Below wr.heap.size wr wa := by rw [← hwa]; exact (Below.refl _ wr).alloc (Nat.le_refl _) _
        have hxa : wa.heap[wr.heap.size]? = some (.cells #[.int .i64 wh, .string DB, .string VB, .string AB, .int .i64 ri, .bool al2] 54) := by rw [← hwa]; exact heap_alloc_new wr _
        obtain ⟨q0, q1, q2, q3, q4, q5⟩ := box6_of hxa
        have HWa := Lib.hid (HW.out.trans (hAa.mono HW.out.size))
        have HYa := Lib.hid hAa
        obtain ⟨⟨g0, g1⟩, hBa⟩ := HX.out wa HWa.out
        have HCa := Lib.hid (HCR.out wa hBa)
        have HBa := Lib.hid hBa
        obtain ⟨RV, hRV⟩ : ∃ x, Mt.rdRu s r = x := ⟨_, rfl⟩
        rw [hRV] at HCa hrd
        have HRV := Lib.hid hRV
        have HRX := Lib.hid hrd
        clear hbl h0 h1 h2 h3 h4 h5 hr hDB hVB hAB hwh hri hal hrv hAa hxa hBa hil hbk hrd hfr hRV HST HCR
        go_upto_region 11 with fail
        clear x0 x1 x2 x3 x4 x5 p0 p1
        cases RV with
        | error er =>
          have hep := Mt.rdRu_err HRV.out
          have hei : ((er : Int) != 0) = true := by simp; omega
          have HE : Hid (RR = .error er) := Lib.hid HRX.out.symm
          have hrz : rdV (.error er) = .tuple #[.agg #[.int .i64 0, .string ⟨#[]⟩, .string ⟨#[]⟩, .string ⟨#[]⟩, .int .i64 0, .bool false], .int .i64 er] := rfl
          rw [hrz] at HCa
          clear hep
          go_wp2_with fail
          refine (HCa.out).mono ?_
          rintro e wx ⟨rfl, hb⟩
          have HBx := Lib.hid (HBa.out.trans (hb.mono HBa.out.size))
          have HBy := Lib.hid (HBx.out.alloc HBx.out.size (.cells #[.int .i64 0, .string ⟨#[]⟩, .string ⟨#[]⟩, .string ⟨#[]⟩, .int .i64 0, .bool false] 66))
          clear hb g0 g1 q0 q1 q2 q3 q4 q5
          go_wp2_with fail
          all_goals ((try rw [Exit.noGoto_ret]); go_ret2; exact ⟨NewP.err HE.out rfl, HBy.out⟩)
        | ok c =>
          obtain ⟨CD, hCD⟩ : ∃ x, Mt.str c.dn = x := ⟨_, rfl⟩
          obtain ⟨CV, hCV⟩ : ∃ x, Mt.str c.wh = x := ⟨_, rfl⟩
          obtain ⟨CA, hCA⟩ : ∃ x, Mt.str c.att = x := ⟨_, rfl⟩
          obtain ⟨cw, hcw⟩ : ∃ x, c.who = x := ⟨_, rfl⟩
          obtain ⟨cr, hcr⟩ : ∃ x, c.rights = x := ⟨_, rfl⟩
          obtain ⟨cl, hcl⟩ : ∃ x, c.allow = x := ⟨_, rfl⟩
          have hrz : rdV (.ok c) = .tuple #[.agg #[.int .i64 cw, .string CD, .string CV, .string CA, .int .i64 cr, .bool cl], .int .i64 0] := by rw [← hCD, ← hCV, ← hCA, ← hcw, ← hcr, ← hcl]; rfl
          rw [hrz] at HCa
          go_wp2_with fail
          refine (HCa.out).mono ?_
          rintro e wx ⟨rfl, hb⟩
          have hYx := HYa.out.trans (hb.mono HYa.out.size)
          obtain ⟨wz, hwz⟩ : ∃ u, wx.alloc (.cells #[.int .i64 cw, .string CD, .string CV, .string CA, .int .i64 cr, .bool cl] 66) = u := ⟨_, rfl⟩
          have hAz : Below wx.heap.size wx wz := by rw [← hwz]; exact (Below.refl _ wx).alloc (Nat.le_refl _) _
          have hxz : wz.heap[wx.heap.size]? = some (.cells #[.int .i64 cw, .string CD, .string CV, .string CA, .int .i64 cr, .bool cl] 66) := by rw [← hwz]; exact heap_alloc_new wx _
          have hYz := hYx.trans (hAz.mono hYx.size)
          have hbz := HBK.out.below hYz
          have hWz := HW.out.trans (hYz.mono HW.out.size)
          obtain ⟨a3, c3, w8, hrun, c9, f9, hbk8, hb8, hs8⟩ := bk_push hbz c (by omega)
          rw [hCD, hCV, hCA, hcw, hcr, hcl] at hrun
          have HBK8 := Lib.hid hbk8
          have HST8 : Hid (∃ (L : List Mt.Ru) (a : Option Addr) (n c : Nat), BkS (w8.setCell ⟨P, 0, none⟩ (.slice a3 (bn + 1) c3)) P a n c L ∧ n ≤ i + 1 + 1 ∧ Mt.rdF s L (rs.drop (i + 1)) = RR) := Lib.hid ⟨L ++ [c], a3, bn + 1, c3, hbk8, by omega, HRX.out⟩
          have HW8 : Hid (Below w1.heap.size w1 (w8.setCell ⟨P, 0, none⟩ (.slice a3 (bn + 1) c3))) := Lib.hid (hWz.trans (hb8.mono HPL.out))
          have d0 : wz.drew.cell? ⟨P, 0, none⟩ = some (.slice ba bn bc) := by rw [cell_of_row _ _ _ _ _ _ (show wz.drew.heap[P]? = _ from hbz.1)]; rfl
          have d1 : ((wz.alloc (.cells #[.int .i64 cw, .string CD, .string CV, .string CA, .int .i64 cr, .bool cl] 66)).drew).cell? ⟨P, 0, none⟩ = some (.slice ba bn bc) := by
            rw [cell_of_row _ _ _ _ _ _ (show ((wz.alloc (.cells #[.int .i64 cw, .string CD, .string CV, .string CA, .int .i64 cr, .bool cl] 66)).drew).heap[P]? = _ from (((Below.refl _ wz).alloc (Nat.le_refl _) (.cells #[.int .i64 cw, .string CD, .string CV, .string CA, .int .i64 cr, .bool cl] 66)).block P (lt_of_block hbz.1)).trans hbz.1)]; rfl
          obtain ⟨y0, y1, y2, y3, y4, y5⟩ := box6_of (show wz.drew.heap[wx.heap.size]? = _ from hxz)
          clear hb g0 g1 q0 q1 q2 q3 q4 q5 hCD hCV hCA hcw hcr hcl hrz hYx hAz hxz hYz hbz hWz hbk8 hb8 hs8
          go_upto_region 14 with fail
          go_region_law (first | (refine step_append_eq (w := (wz.alloc (.cells #[.int .i64 cw, .string CD, .string CV, .string CA, .int .i64 cr, .bool cl] 66)).drew) rfl (.tmp 61) (.tmp 63) 62 62 rfl _ _ (by rfl) (by rfl) hrun ?_))
          all_goals
            go_wp2_with fail
            go_roundw
            case rel => exact ⟨i + 1, by omega, by go_num, HST8, HW8⟩
            case measure => simp [intOf]; omega
      · obtain rfl : i = m := by omega
        have e1 : decide ((i : Int) < (i : Int)) = false := decide_eq_false (by omega)
        have e2 : decide (i < i) = false := decide_eq_false (by omega)
        obtain ⟨L, ba, bn, bc, hbk, hbn, hrd⟩ := HST.out
        have hall : rs.drop i = [] := List.drop_of_length_le (by rw [HM.out]; exact Nat.le_refl _)
        rw [hall] at hrd
        have HE : Hid (RR = .ok L) := Lib.hid hrd.symm
        have HBK := Lib.hid hbk
        have hbl : bn * 72 ≤ 140737488355328 := by omega
        have HBL := Lib.hid hbl
        clear hall hrd hbk hbl p0 p1
        go_wp2_with fail
        all_goals ((try rw [Exit.noGoto_ret]); go_ret2; exact ⟨NewP.ok HE.out HBK.out HBL.out rfl, HB.out⟩)
  · have d1 : decide ((0 : Int) < (al : Int)) = true := decide_eq_true (by omega)
    have d2 : decide (0 < al) = true := decide_eq_true (by omega)
    have d3 : decide ((al : Int) > 0) = true := decide_eq_true (by omega)
    obtain ⟨w4, hw4⟩ : ∃ u, w3.alloc (.cells #[.int .i64 3, .string KB, .string ⟨#[]⟩, .string ⟨#[]⟩, .int .i64 15, .bool true] 54) = u := ⟨_, rfl⟩
    have hA4 : Below w3.heap.size w3 w4 := by rw [← hw4]; exact (Below.refl _ w3).alloc (Nat.le_refl _) _
    have hx4 : w4.heap[w3.heap.size]? = some (.cells #[.int .i64 3, .string KB, .string ⟨#[]⟩, .string ⟨#[]⟩, .int .i64 15, .bool true] 54) := by rw [← hw4]; exact heap_alloc_new w3 _
    have hbz := HBK3.out.below hA4
    have hWz := HW3.out.trans (hA4.mono HW3.out.size)
    obtain ⟨a3, c3, w8, hrun, c9, f9, hbk8, hb8, hs8⟩ := bk_push hbz ⟨3, k1, [], [], 15, true⟩ (by omega)
    have hs0 : Mt.str [] = ⟨#[]⟩ := rfl
    simp only [HKB.out, hs0] at hrun
    have HST0 : Hid (∃ (L : List Mt.Ru) (a : Option Addr) (n c : Nat), BkS (w8.setCell ⟨P, 0, none⟩ (.slice a3 1 c3)) P a n c L ∧ n ≤ 0 + 1 ∧ Mt.rdF s L (rs.drop 0) = RR) := Lib.hid ⟨[⟨3, k1, [], [], 15, true⟩], a3, 1, c3, hbk8, by omega, by rw [← HAE.out.2 hz]; exact HRR0.out⟩
    have HW0 : Hid (Below w1.heap.size w1 (w8.setCell ⟨P, 0, none⟩ (.slice a3 1 c3))) := Lib.hid (hWz.trans (hb8.mono HPL.out))
    have g0 : w4.drew.cell? ⟨P, 0, none⟩ = some (.slice none 0 0) := by rw [cell_of_row _ _ _ _ _ _ (show w4.drew.heap[P]? = _ from hbz.1)]; rfl
    have g1 : ((w4.alloc (.cells #[.int .i64 3, .string KB, .string ⟨#[]⟩, .string ⟨#[]⟩, .int .i64 15, .bool true] 66)).drew).cell? ⟨P, 0, none⟩ = some (.slice none 0 0) := by
      rw [cell_of_row _ _ _ _ _ _ (show ((w4.alloc (.cells #[.int .i64 3, .string KB, .string ⟨#[]⟩, .string ⟨#[]⟩, .int .i64 15, .bool true] 66)).drew).heap[P]? = _ from (((Below.refl _ w4).alloc (Nat.le_refl _) (.cells #[.int .i64 3, .string KB, .string ⟨#[]⟩, .string ⟨#[]⟩, .int .i64 15, .bool true] 66)).block P (lt_of_block hbz.1)).trans hbz.1)]; rfl
    obtain ⟨y0, y1, y2, y3, y4, y5⟩ := box6_of (show w4.drew.heap[w3.heap.size]? = _ from hx4)
    clear hA4 hx4 hbz hWz hbk8 hb8 hs8 hs0
    go_upto_region 7 with fail
    go_region_law (first | (refine step_append_eq (w := (w4.alloc (.cells #[.int .i64 3, .string KB, .string ⟨#[]⟩, .string ⟨#[]⟩, .int .i64 15, .bool true] 66)).drew) rfl (.tmp 35) (.tmp 38) 62 62 rfl _ _ (by rfl) (by rfl) hrun ?_))
    all_goals
      clear hrun c9 f9 g0 g1 y0 y1 y2 y3 y4 y5
      go_wp2_with fail
      go_loopw [44] (fun iv wr => ∃ i : Nat, i ≤ m ∧ iv = .int .i64 (i : Int) ∧ Hid (∃ (L : List Mt.Ru) (a : Option Addr) (n c : Nat), BkS wr P a n c L ∧ n ≤ i + 1 ∧ Mt.rdF s L (rs.drop i) = RR) ∧ Hid (Below w1.heap.size w1 wr)) (fun iv _ => m - (intOf iv).toNat)
      case atStart => exact ⟨0, Nat.zero_le _, rfl, HST0, HW0⟩
      case round =>
        obtain ⟨i, hi, rfl, HST, HW⟩ := hrel
        obtain ⟨⟨p0, p1⟩, hB⟩ := HX.out wr HW.out
        have HB := Lib.hid hB
        clear hB
        by_cases hlt : i < m
        · have e1 : decide ((i : Int) < (m : Int)) = true := decide_eq_true (by omega)
          have e2 : decide (i < m) = true := decide_eq_true hlt
          have i0 : (0 : Int) ≤ (i : Int) := by omega
          have i1 : (i : Int) < (m : Int) := by omega
          have hil : i < rs.length := by rw [HM.out]; exact hlt
          obtain ⟨b, off, e0, hbl, h0, h1, h2, h3, h4, h5⟩ := HRS.out i hil
          subst e0
          have x0 := (HB.out.cell (p := ⟨b, off + i * 6, none⟩) hbl).trans h0
          have x1 := (HB.out.cell (p := ⟨b, off + i * 6 + 1, none⟩) hbl).trans h1
          have x2 := (HB.out.cell (p := ⟨b, off + i * 6 + 2, none⟩) hbl).trans h2
          have x3 := (HB.out.cell (p := ⟨b, off + i * 6 + 3, none⟩) hbl).trans h3
          have x4 := (HB.out.cell (p := ⟨b, off + i * 6 + 4, none⟩) hbl).trans h4
          have x5 := (HB.out.cell (p := ⟨b, off + i * 6 + 5, none⟩) hbl).trans h5
          obtain ⟨L, ba, bn, bc, hbk, hbn, hrd⟩ := HST.out
          rw [Mt.rdF_step s L rs hil] at hrd
          have hfr := HFR.out _ (List.getElem_mem hil)
          obtain ⟨r, hr⟩ : ∃ r, rs[i] = r := ⟨_, rfl⟩
          rw [hr] at x0 x1 x2 x3 x4 x5 hrd hfr
          have HCR := Lib.hid (HRD.out r hfr)
          have HBK := Lib.hid hbk
          obtain ⟨DB, hDB⟩ : ∃ x, Mt.str r.dn = x := ⟨_, rfl⟩
          obtain ⟨VB, hVB⟩ : ∃ x, Mt.str r.wh = x := ⟨_, rfl⟩
          obtain ⟨AB, hAB⟩ : ∃ x, Mt.str r.att = x := ⟨_, rfl⟩
          obtain ⟨wh, hwh⟩ : ∃ x, r.who = x := ⟨_, rfl⟩
          obtain ⟨ri, hri⟩ : ∃ x, r.rights = x := ⟨_, rfl⟩
          obtain ⟨al2, hal⟩ : ∃ x, r.allow = x := ⟨_, rfl⟩
          have hrv : ruV r = .agg #[.int .i64 wh, .string DB, .string VB, .string AB, .int .i64 ri, .bool al2] := by rw [← hDB, ← hVB, ← hAB, ← hwh, ← hri, ← hal]; rfl
          rw [hDB] at x1
          rw [hVB] at x2
          rw [hAB] at x3
          rw [hwh] at x0
          rw [hri] at x4
          rw [hal] at x5
          rw [hrv] at HCR
          obtain ⟨wa, hwa⟩ : ∃ u, wr.alloc (.cells #[.int .i64 wh, .string DB, .string VB, .string AB, .int .i64 ri, .bool al2] 54) = u := ⟨_, rfl⟩
          have hAa : Below wr.heap.size wr wa := by rw [← hwa]; exact (Below.refl _ wr).alloc (Nat.le_refl _) _
          have hxa : wa.heap[wr.heap.size]? = some (.cells #[.int .i64 wh, .string DB, .string VB, .string AB, .int .i64 ri, .bool al2] 54) := by rw [← hwa]; exact heap_alloc_new wr _
          obtain ⟨q0, q1, q2, q3, q4, q5⟩ := box6_of hxa
          have HWa := Lib.hid (HW.out.trans (hAa.mono HW.out.size))
          have HYa := Lib.hid hAa
          obtain ⟨⟨g0, g1⟩, hBa⟩ := HX.out wa HWa.out
          have HCa := Lib.hid (HCR.out wa hBa)
          have HBa := Lib.hid hBa
          obtain ⟨RV, hRV⟩ : ∃ x, Mt.rdRu s r = x := ⟨_, rfl⟩
          rw [hRV] at HCa hrd
          have HRV := Lib.hid hRV
          have HRX := Lib.hid hrd
          clear hbl h0 h1 h2 h3 h4 h5 hr hDB hVB hAB hwh hri hal hrv hAa hxa hBa hil hbk hrd hfr hRV HST HCR
          go_upto_region 11 with fail
          clear x0 x1 x2 x3 x4 x5 p0 p1
          cases RV with
          | error er =>
            have hep := Mt.rdRu_err HRV.out
            have hei : ((er : Int) != 0) = true := by simp; omega
            have HE : Hid (RR = .error er) := Lib.hid HRX.out.symm
            have hrz : rdV (.error er) = .tuple #[.agg #[.int .i64 0, .string ⟨#[]⟩, .string ⟨#[]⟩, .string ⟨#[]⟩, .int .i64 0, .bool false], .int .i64 er] := rfl
            rw [hrz] at HCa
            clear hep
            go_wp2_with fail
            refine (HCa.out).mono ?_
            rintro e wx ⟨rfl, hb⟩
            have HBx := Lib.hid (HBa.out.trans (hb.mono HBa.out.size))
            have HBy := Lib.hid (HBx.out.alloc HBx.out.size (.cells #[.int .i64 0, .string ⟨#[]⟩, .string ⟨#[]⟩, .string ⟨#[]⟩, .int .i64 0, .bool false] 66))
            clear hb g0 g1 q0 q1 q2 q3 q4 q5
            go_wp2_with fail
            all_goals ((try rw [Exit.noGoto_ret]); go_ret2; exact ⟨NewP.err HE.out rfl, HBy.out⟩)
          | ok c =>
            obtain ⟨CD, hCD⟩ : ∃ x, Mt.str c.dn = x := ⟨_, rfl⟩
            obtain ⟨CV, hCV⟩ : ∃ x, Mt.str c.wh = x := ⟨_, rfl⟩
            obtain ⟨CA, hCA⟩ : ∃ x, Mt.str c.att = x := ⟨_, rfl⟩
            obtain ⟨cw, hcw⟩ : ∃ x, c.who = x := ⟨_, rfl⟩
            obtain ⟨cr, hcr⟩ : ∃ x, c.rights = x := ⟨_, rfl⟩
            obtain ⟨cl, hcl⟩ : ∃ x, c.allow = x := ⟨_, rfl⟩
            have hrz : rdV (.ok c) = .tuple #[.agg #[.int .i64 cw, .string CD, .string CV, .string CA, .int .i64 cr, .bool cl], .int .i64 0] := by rw [← hCD, ← hCV, ← hCA, ← hcw, ← hcr, ← hcl]; rfl
            rw [hrz] at HCa
            go_wp2_with fail
            refine (HCa.out).mono ?_
            rintro e wx ⟨rfl, hb⟩
            have hYx := HYa.out.trans (hb.mono HYa.out.size)
            obtain ⟨wz, hwz⟩ : ∃ u, wx.alloc (.cells #[.int .i64 cw, .string CD, .string CV, .string CA, .int .i64 cr, .bool cl] 66) = u := ⟨_, rfl⟩
            have hAz : Below wx.heap.size wx wz := by rw [← hwz]; exact (Below.refl _ wx).alloc (Nat.le_refl _) _
            have hxz : wz.heap[wx.heap.size]? = some (.cells #[.int .i64 cw, .string CD, .string CV, .string CA, .int .i64 cr, .bool cl] 66) := by rw [← hwz]; exact heap_alloc_new wx _
            have hYz := hYx.trans (hAz.mono hYx.size)
            have hbz := HBK.out.below hYz
            have hWz := HW.out.trans (hYz.mono HW.out.size)
            obtain ⟨a3, c3, w8, hrun, c9, f9, hbk8, hb8, hs8⟩ := bk_push hbz c (by omega)
            rw [hCD, hCV, hCA, hcw, hcr, hcl] at hrun
            have HBK8 := Lib.hid hbk8
            have HST8 : Hid (∃ (L : List Mt.Ru) (a : Option Addr) (n c : Nat), BkS (w8.setCell ⟨P, 0, none⟩ (.slice a3 (bn + 1) c3)) P a n c L ∧ n ≤ i + 1 + 1 ∧ Mt.rdF s L (rs.drop (i + 1)) = RR) := Lib.hid ⟨L ++ [c], a3, bn + 1, c3, hbk8, by omega, HRX.out⟩
            have HW8 : Hid (Below w1.heap.size w1 (w8.setCell ⟨P, 0, none⟩ (.slice a3 (bn + 1) c3))) := Lib.hid (hWz.trans (hb8.mono HPL.out))
            have d0 : wz.drew.cell? ⟨P, 0, none⟩ = some (.slice ba bn bc) := by rw [cell_of_row _ _ _ _ _ _ (show wz.drew.heap[P]? = _ from hbz.1)]; rfl
            have d1 : ((wz.alloc (.cells #[.int .i64 cw, .string CD, .string CV, .string CA, .int .i64 cr, .bool cl] 66)).drew).cell? ⟨P, 0, none⟩ = some (.slice ba bn bc) := by
              rw [cell_of_row _ _ _ _ _ _ (show ((wz.alloc (.cells #[.int .i64 cw, .string CD, .string CV, .string CA, .int .i64 cr, .bool cl] 66)).drew).heap[P]? = _ from (((Below.refl _ wz).alloc (Nat.le_refl _) (.cells #[.int .i64 cw, .string CD, .string CV, .string CA, .int .i64 cr, .bool cl] 66)).block P (lt_of_block hbz.1)).trans hbz.1)]; rfl
            obtain ⟨y0, y1, y2, y3, y4, y5⟩ := box6_of (show wz.drew.heap[wx.heap.size]? = _ from hxz)
            clear hb g0 g1 q0 q1 q2 q3 q4 q5 hCD hCV hCA hcw hcr hcl hrz hYx hAz hxz hYz hbz hWz hbk8 hb8 hs8
            go_upto_region 14 with fail
            go_region_law (first | (refine step_append_eq (w := (wz.alloc (.cells #[.int .i64 cw, .string CD, .string CV, .string CA, .int .i64 cr, .bool cl] 66)).drew) rfl (.tmp 61) (.tmp 63) 62 62 rfl _ _ (by rfl) (by rfl) hrun ?_))
            all_goals
              go_wp2_with fail
              go_roundw
              case rel => exact ⟨i + 1, by omega, by go_num, HST8, HW8⟩
              case measure => simp [intOf]; omega
        · obtain rfl : i = m := by omega
          have e1 : decide ((i : Int) < (i : Int)) = false := decide_eq_false (by omega)
          have e2 : decide (i < i) = false := decide_eq_false (by omega)
          obtain ⟨L, ba, bn, bc, hbk, hbn, hrd⟩ := HST.out
          have hall : rs.drop i = [] := List.drop_of_length_le (by rw [HM.out]; exact Nat.le_refl _)
          rw [hall] at hrd
          have HE : Hid (RR = .ok L) := Lib.hid hrd.symm
          have HBK := Lib.hid hbk
          have hbl : bn * 72 ≤ 140737488355328 := by omega
          have HBL := Lib.hid hbl
          clear hall hrd hbk hbl p0 p1
          go_wp2_with fail
          all_goals ((try rw [Exit.noGoto_ret]); go_ret2; exact ⟨NewP.ok HE.out HBK.out HBL.out rfl, HB.out⟩)
theorem new22_any {tv cv av rv : Value} {s : Mt.Sc} {admin : List (List Mt.Av)} {rs : List Mt.Ru} {w : World} (h : IsSc w tv cv s) (ha : IsDn w av admin) (hr : IsRus w rv rs) (hf : ∀ r ∈ rs, Mt.FitRu r) (hl : rs.length * 72 ≤ 140737488351232) :
    Calls Tryz.prog 10 #[.agg #[tv, cv], av, rv] w fun e w' => NewP w (Mt.newA s admin rs) e w' ∧ Below w.heap.size w w' :=
  new22_big h ha hr hf (by omega)
end Go.Proofs.YtngdbhncafnliaaGreat
