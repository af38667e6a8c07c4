/-
  PolicyTries is proved: what comes of any tries, one behind the other, of any state, by any policy, is what the document says; states that are handed in stay as they are. No condition.
-/
import Derived.Test.YtcijjblcoelabaaRows
import Derived.Test.YtcijjblcoelabaaPlM
import Derived.Test.YtcijjblcoelabaaPlN
import Derived.Test.YtcijjblcoelabaaPlQ
import Derived.ProofKit
import Derived.OpenShut
import Derived.SizedLaws
set_option linter.unusedVariables false
set_option linter.unusedSimpArgs false
namespace Go.Proofs.Ytcijjblcoelabaa.policyTries
open Go.ChangeShapes Go.WideShapes Go.ChangeAt Go.RowKit Go.Shelf
set_option linter.unusedVariables false

theorem tryL_len (p : Mt.Po) (s : Mt.Ps) (now : Int) (right : Bool) (h : s.fails.length ≤ 300) : (Mt.tryL p s now right).1.fails.length ≤ 300 := by
  unfold Mt.tryL
  split
  · exact h
  · split
    · exact h
    · split
      · unfold Mt.failL
        split
        · simp
        · exact Nat.le_trans (Mt.lastL_len _) (by decide)
      · split
        · exact h
        · simp [Mt.newS]
/-- Not in one of two boxes, where there is anything. -/
def Far2 (a : Option Addr) (n b1 b2 : Nat) : Prop := 0 < n → ∀ b off, a = some ⟨b, off, none⟩ → b ≠ b1 ∧ b ≠ b2
theorem IsTm.stay {w u : World} {a : Option Addr} {n c b1 b2 : Nat} {l : List Int} (h : IsTm w (.slice a n c) l) (ho : OnlyS [b1, b2] w u) (hf : Far2 a l.length b1 b2) : IsTm u (.slice a n c) l := by
  obtain ⟨a', cap, e, hc, hcell⟩ := h
  refine ⟨a', cap, e, hc, Lib.hid fun j hj => ?_⟩
  obtain ⟨b, off, e0, h1, h2⟩ := hcell.out j hj
  have ha : a = a' := by injection e
  have hne := hf (by omega) b off (by rw [ha, e0])
  exact ⟨b, off, e0, Nat.lt_of_lt_of_le h1 ho.size, (ho.cell (p := ⟨b, off + j, none⟩) h1 (by simp; exact hne)).trans h2⟩
theorem IsTm.ltB {w : World} {a : Option Addr} {n c : Nat} {l : List Int} (h : IsTm w (.slice a n c) l) (hn : 0 < l.length) : ∀ b off, a = some ⟨b, off, none⟩ → b < w.heap.size := by
  obtain ⟨a', cap, e, hc, hcell⟩ := h
  intro b off e2
  obtain ⟨b3, off3, e0, h1, h2⟩ := hcell.out 0 hn
  have ha : a = a' := by injection e
  rw [ha, e0] at e2
  injection e2 with e3
  injection e3 with e4
  omega
/-- Both boxes hold the state. -/
def Two23 (b1 b2 : Nat) (u : World) (m : Mt.Ps) : Prop := ∃ a1 c1 a2 c2, u.heap[b1]? = some (.cells #[.slice a1 m.fails.length c1, .int .i64 m.locked, .int .i64 m.changed] 26) ∧ IsTm u (.slice a1 m.fails.length c1) m.fails ∧ u.heap[b2]? = some (.cells #[.slice a2 m.fails.length c2, .int .i64 m.locked, .int .i64 m.changed] 34) ∧ IsTm u (.slice a2 m.fails.length c2) m.fails ∧ Far2 a1 m.fails.length b1 b2 ∧ Far2 a2 m.fails.length b1 b2
/-- Three cells stored into a box. -/
def put3 (u : World) (b : Nat) (v0 v1 v2 : Value) : World := ((u.setCell ⟨b, 0, none⟩ v0).setCell ⟨b, 1, none⟩ v1).setCell ⟨b, 2, none⟩ v2
theorem put3_row {u : World} {b : Nat} {x0 x1 x2 : Value} {T : TypeId} (h : u.heap[b]? = some (.cells #[x0, x1, x2] T)) (v0 v1 v2 : Value) : (put3 u b v0 v1 v2).heap[b]? = some (.cells #[v0, v1, v2] T) := set3_of h _ _ _
theorem put3_only (u : World) (b : Nat) (v0 v1 v2 : Value) : OnlyS [b] u (put3 u b v0 v1 v2) := only3 _ _ _
theorem put3_two {u : World} {b1 b2 : Nat} {m : Mt.Ps} {a1 a2 : Option Addr} {n c1 c2 : Nat} {w0 : World} (hne : b1 ≠ b2) {x0 x1 x2 z0 z1 z2 : Value} (hn : m.fails.length = n) (hb : Below w0.heap.size w0 u) (h1 : w0.heap.size ≤ b1) (h2 : w0.heap.size ≤ b2)
    (R1 : u.heap[b1]? = some (.cells #[x0, x1, x2] 26)) (R2 : u.heap[b2]? = some (.cells #[z0, z1, z2] 34)) (m1 : IsTm u (.slice a1 n c1) m.fails) (m2 : IsTm u (.slice a2 n c2) m.fails) (f1 : Far2 a1 n b1 b2) (f2 : Far2 a2 n b1 b2) :
    (Two23 b1 b2 (put3 (put3 u b1 (.slice a1 n c1) (.int .i64 m.locked) (.int .i64 m.changed)) b2 (.slice a2 n c2) (.int .i64 m.locked) (.int .i64 m.changed)) m ∧ Below w0.heap.size w0 (put3 (put3 u b1 (.slice a1 n c1) (.int .i64 m.locked) (.int .i64 m.changed)) b2 (.slice a2 n c2) (.int .i64 m.locked) (.int .i64 m.changed))) ∧
    (Two23 b1 b2 (put3 (put3 u b2 (.slice a2 n c2) (.int .i64 m.locked) (.int .i64 m.changed)) b1 (.slice a1 n c1) (.int .i64 m.locked) (.int .i64 m.changed)) m ∧ Below w0.heap.size w0 (put3 (put3 u b2 (.slice a2 n c2) (.int .i64 m.locked) (.int .i64 m.changed)) b1 (.slice a1 n c1) (.int .i64 m.locked) (.int .i64 m.changed))) := by
  subst hn
  have l1 := lt_of_block R1
  have l2 := lt_of_block R2
  have oA := put3_only u b1 (.slice a1 m.fails.length c1) (.int .i64 m.locked) (.int .i64 m.changed)
  have oB := put3_only u b2 (.slice a2 m.fails.length c2) (.int .i64 m.locked) (.int .i64 m.changed)
  have oA2 := put3_only (put3 u b1 (.slice a1 m.fails.length c1) (.int .i64 m.locked) (.int .i64 m.changed)) b2 (.slice a2 m.fails.length c2) (.int .i64 m.locked) (.int .i64 m.changed)
  have oB2 := put3_only (put3 u b2 (.slice a2 m.fails.length c2) (.int .i64 m.locked) (.int .i64 m.changed)) b1 (.slice a1 m.fails.length c1) (.int .i64 m.locked) (.int .i64 m.changed)
  have oAA := (oA.mono (T := [b1, b2]) (by simp)).trans (oA2.mono (T := [b1, b2]) (by simp))
  have oBB := (oB.mono (T := [b1, b2]) (by simp)).trans (oB2.mono (T := [b1, b2]) (by simp))
  have hS : ∀ k ∈ [b1, b2], w0.heap.size ≤ k := fun k hk => by simp at hk; omega
  have lA := Nat.lt_of_lt_of_le l1 oA.size
  have lB := Nat.lt_of_lt_of_le l2 oB.size
  refine ⟨⟨⟨a1, c1, a2, c2, ?_, IsTm.stay m1 oAA f1, ?_, IsTm.stay m2 oAA f2, f1, f2⟩, hb.trans (oAA.toBelow hS hb.size)⟩, ⟨⟨a1, c1, a2, c2, ?_, IsTm.stay m1 oBB f1, ?_, IsTm.stay m2 oBB f2, f1, f2⟩, hb.trans (oBB.toBelow hS hb.size)⟩⟩
  · exact (oA2.block _ lA (by simp [hne])).trans (put3_row R1 _ _ _)
  · exact put3_row ((oA.block _ l2 (by simp; exact fun e => hne e.symm)).trans R2) _ _ _
  · exact put3_row ((oB.block _ l1 (by simp [hne])).trans R1) _ _ _
  · exact (oB2.block _ lB (by simp; exact fun e => hne e.symm)).trans (put3_row R2 _ _ _)
theorem two_drew {b1 b2 : Nat} {u : World} {m : Mt.Ps} (h : Two23 b1 b2 u m) : Two23 b1 b2 u.drew m := by
  obtain ⟨a1, c1, a2, c2, h1, h2, h3, h4, h5, h6⟩ := h
  exact ⟨a1, c1, a2, c2, h1, h2.below (Below.refl _ u).drew, h3, h4.below (Below.refl _ u).drew, h5, h6⟩
set_option maxRecDepth 100000 in
set_option maxHeartbeats 4000000 in
theorem walk (f wi lo ag : Int) (fv : Value) (s : Mt.Ps) (l : List (Int × Bool)) (tv : Value) (w : World) (hs : IsTm w fv s.fails) (ht : IsTrys w tv l) : Calls Try.prog 3 #[.agg #[.int .i64 f, .int .i64 wi, .int .i64 lo, .int .i64 ag], stV fv s, tv] w fun e w' => e = .returned (.bool true) ∧ Below w.heap.size w w' := by
  have HAW := Lib.hid (fun u => awake23_any u)
  obtain ⟨X, hX⟩ : ∃ X : Int, (if Mt.okPo ⟨f, wi, lo, ag⟩ = true then 0 else 2) = X := ⟨_, rfl⟩
  have HCK : Hid (∀ u : World, Calls Try.prog 11 #[.agg #[.int .i64 f, .int .i64 wi, .int .i64 lo, .int .i64 ag]] u fun e w' => e = .returned (.int .i64 X) ∧ Below u.heap.size u w') := Lib.hid (fun u => by rw [← hX]; exact check23_any ⟨f, wi, lo, ag⟩ u)
  have HRC : Hid (∀ u : World, Calls Try.prog 12 #[.agg #[.int .i64 f, .int .i64 wi, .int .i64 lo, .int .i64 ag]] u fun e w' => e = .returned (.int .i64 X) ∧ Below u.heap.size u w') := Lib.hid (fun u => by rw [← hX]; exact rcheck23_any ⟨f, wi, lo, ag⟩ u)
  have dx1 : (X == X) = true := beq_self_eq_true _
  have dx2 : (X != X) = false := by simp
  clear hX
  obtain ⟨ls, lk, ch⟩ := s
  obtain ⟨va, vc, rfl, hvc, -⟩ := id hs
  have HVS := Lib.hid hs
  obtain ⟨ta, tc, rfl, htc, -⟩ := id ht
  have HTT := Lib.hid ht
  simp only at hs hvc HVS ⊢
  unfold stV
  simp only
  obtain ⟨n, hn⟩ : ∃ n, ls.length = n := ⟨_, rfl⟩
  obtain ⟨m, hm⟩ : ∃ m, l.length = m := ⟨_, rfl⟩
  have HN := Lib.hid hn
  have HM := Lib.hid hm
  rw [hn] at HVS hs hvc ⊢
  rw [hm] at HTT ht htc ⊢
  clear hn hm ht
  obtain ⟨w1, hw1⟩ : ∃ u, w.alloc (.cells #[.int .i64 f, .int .i64 wi, .int .i64 lo, .int .i64 ag] 23) = u := ⟨_, rfl⟩
  have hA : Below w.heap.size w w1 := by rw [← hw1]; exact (Below.refl _ w).alloc (Nat.le_refl _) _
  have hx1 : w1.heap[w.heap.size]? = some (.cells #[.int .i64 f, .int .i64 wi, .int .i64 lo, .int .i64 ag] 23) := by rw [← hw1]; exact heap_alloc_new w _
  obtain ⟨w2, hw2⟩ : ∃ u, w1.alloc (.cells #[.slice va n vc, .int .i64 lk, .int .i64 ch] 26) = u := ⟨_, rfl⟩
  have hA2 : Below w1.heap.size w1 w2 := by rw [← hw2]; exact (Below.refl _ w1).alloc (Nat.le_refl _) _
  have hx2 : w2.heap[w1.heap.size]? = some (.cells #[.slice va n vc, .int .i64 lk, .int .i64 ch] 26) := by rw [← hw2]; exact heap_alloc_new w1 _
  have HP : Hid (∀ u, Below w1.heap.size w1 u → Below w.heap.size w u ∧ (u.cell? ⟨w.heap.size, 0, none⟩ = some (.int .i64 f) ∧ u.cell? ⟨w.heap.size, 1, none⟩ = some (.int .i64 wi) ∧ u.cell? ⟨w.heap.size, 2, none⟩ = some (.int .i64 lo) ∧ u.cell? ⟨w.heap.size, 3, none⟩ = some (.int .i64 ag))) := Lib.hid (fun u hu => ⟨hA.trans (hu.mono hA.size), box4_of ((hu.block _ (lt_of_block hx1)).trans hx1)⟩)
  have HQ : Hid (∀ u, Below w2.heap.size w2 u → Below w1.heap.size w1 u ∧ (u.cell? ⟨w1.heap.size, 0, none⟩ = some (.slice va n vc) ∧ u.cell? ⟨w1.heap.size, 1, none⟩ = some (.int .i64 lk) ∧ u.cell? ⟨w1.heap.size, 2, none⟩ = some (.int .i64 ch))) := Lib.hid (fun u hu => ⟨hA2.trans (hu.mono hA2.size), box3_of ((hu.block _ (lt_of_block hx2)).trans hx2)⟩)
  have HX2 := Lib.hid hx2
  have HV2 : Hid (IsTm w2 (.slice va n vc) ls ∧ IsTrys w2 (.slice ta m tc) l ∧ (0 < n → ∀ b off, va = some ⟨b, off, none⟩ → b < w1.heap.size) ∧ w.heap.size < w1.heap.size ∧ w1.heap.size < w2.heap.size) := Lib.hid (by
    have hb := hA.trans (hA2.mono hA.size)
    refine ⟨HVS.out.below hb, ?_, fun h0 b off e => ?_, lt_of_block hx1, lt_of_block hx2⟩
    · obtain ⟨a, cap, e, hc, h⟩ := HTT.out
      refine ⟨a, cap, e, hc, Lib.hid fun j hj => ?_⟩
      obtain ⟨b, off, h0, h1, h2, h3⟩ := h.out j hj
      exact ⟨b, off, h0, Nat.lt_of_lt_of_le h1 hb.size, (hb.cell (p := ⟨b, _, none⟩) h1).trans h2, (hb.cell (p := ⟨b, _, none⟩) h1).trans h3⟩
    · have := IsTm.ltB HVS.out (by rw [HN.out]; exact h0) b off e
      have := hA.size
      omega)
  have HR2 := Lib.hid (Below.refl w2.heap.size w2)
  clear hA hA2 hx1 hx2 hs
  go_enter Try.func3, Try.ntmps3
  obtain ⟨hb1, y0, y1, y2⟩ := HQ.out w2 HR2.out
  obtain ⟨hbw, p0, p1, p2, p3⟩ := HP.out _ hb1
  have HBW := Lib.hid hbw
  clear hb1 hbw
  obtain ⟨zl0, hzl0⟩ : ∃ z, decide ((300 : Int) < (n : Int)) = z := ⟨_, rfl⟩
  obtain ⟨zl1, hzl1⟩ : ∃ z, decide ((300 : Int) < (m : Int)) = z := ⟨_, rfl⟩
  have hzn0 : decide (300 < n) = zl0 := by rw [← hzl0]; exact decide_eq_decide.2 (by omega)
  have hzn1 : decide (300 < m) = zl1 := by rw [← hzl1]; exact decide_eq_decide.2 (by omega)
  have HZ := Lib.hid (And.intro hzn0 hzn1)
  go_upto_region 1 with fail
  clear hw1 hw2
  by_cases hbig : (zl0 || zl1) = true
  · cases zl0 <;> cases zl1
    case false.false => cases hbig
    all_goals
      clear hbig
      go_wp2_with fail
      refine (HAW.out _).mono ?_
      rintro e u2 ⟨rfl, hb⟩
      go_wp2_with fail
      all_goals (go_ret; exact ⟨rfl, HBW.out.trans (hb.mono HBW.out.size)⟩)
  · obtain ⟨rfl, rfl⟩ : zl0 = false ∧ zl1 = false := by cases zl0 <;> cases zl1 <;> simp at hbig ⊢
    have hn300 : n ≤ 300 := by have := of_decide_eq_false HZ.out.1; omega
    have HN300 := Lib.hid hn300
    have hm300 : m ≤ 300 := by have := of_decide_eq_false HZ.out.2; omega
    have HM300 := Lib.hid hm300
    clear hm300
    clear hbig
    obtain ⟨zr, hzr⟩ : ∃ z, Mt.rightB ⟨ls, lk, ch⟩ = z := ⟨_, rfl⟩
    have HRT : Hid (∀ u, Below w2.heap.size w2 u → Calls Try.prog 13 #[.agg #[.slice va n vc, .int .i64 lk, .int .i64 ch]] u fun e w' => e = .returned (.bool zr) ∧ Below u.heap.size u w') := Lib.hid (fun u hu => by rw [← hzr]; exact right23_any (s := ⟨ls, lk, ch⟩) (HV2.out.1.below hu) (by simp only; rw [HN.out]; omega))
    have HRR : Hid (∀ u, Below w2.heap.size w2 u → Calls Try.prog 14 #[.agg #[.slice va n vc, .int .i64 lk, .int .i64 ch]] u fun e w' => e = .returned (.bool zr) ∧ Below u.heap.size u w') := Lib.hid (fun u hu => by rw [← hzr]; exact rright23_any (s := ⟨ls, lk, ch⟩) (HV2.out.1.below hu) (by simp only; rw [HN.out]; omega))
    have HTO : Hid (∀ u : World, Calls Try.prog 15 #[.agg #[.slice va n vc, .int .i64 lk, .int .i64 ch]] u fun e w' => e = .returned (.agg #[.slice va n vc, .int .i64 lk, .int .i64 ch]) ∧ Below u.heap.size u w') := Lib.hid (fun u => to23_any (v := .slice va n vc) ⟨ls, lk, ch⟩ u ⟨_, _, _, rfl⟩)
    have dz : (zr != zr) = false := by cases zr <;> rfl
    have dz2 : (zr == zr) = true := by cases zr <;> rfl
    clear hzr
    go_upto_region 3 with fail
    have HS : Hid (Below w2.heap.size w2 w2.drew) := Lib.hid (Below.refl _ w2).drew
    go_cut [37] from 25 to 37 (fun t37 wx => t37 = .bool false ∧ Hid (Below w2.heap.size w2 wx))
    case first =>
      go_region_held3 (fun w' => (w'.cell? ⟨w.heap.size, 0, none⟩ = some (.int .i64 f) ∧ w'.cell? ⟨w.heap.size, 1, none⟩ = some (.int .i64 wi) ∧ w'.cell? ⟨w.heap.size, 2, none⟩ = some (.int .i64 lo) ∧ w'.cell? ⟨w.heap.size, 3, none⟩ = some (.int .i64 ag)) ∧ w'.cell? ⟨w1.heap.size, 0, none⟩ = some (.slice va n vc) ∧ w'.cell? ⟨w1.heap.size, 1, none⟩ = some (.int .i64 lk) ∧ w'.cell? ⟨w1.heap.size, 2, none⟩ = some (.int .i64 ch))
        (first
          | with_reducible exact ⟨(HP.out _ (HQ.out _ HS.out).1).2, (HQ.out _ HS.out).2⟩
          | go_keep)
        (first
          | (go_at_call 11; refine (HCK.out _).mono ?_; rintro e u3 ⟨rfl, hb⟩; have HS := Lib.hid (HS.out.trans (hb.mono HS.out.size)))
          | (go_at_call 12; refine (HRC.out _).mono ?_; rintro e u3 ⟨rfl, hb⟩; have HS := Lib.hid (HS.out.trans (hb.mono HS.out.size)))
          | (go_at_call 13; refine (HRT.out _ HS.out).mono ?_; rintro e u3 ⟨rfl, hb⟩; have HS := Lib.hid (HS.out.trans (hb.mono HS.out.size)))
          | (go_at_call 14; refine (HRR.out _ HS.out).mono ?_; rintro e u3 ⟨rfl, hb⟩; have HS := Lib.hid (HS.out.trans (hb.mono HS.out.size)))
          | (go_at_call 15; refine (HTO.out _).mono ?_; rintro e u3 ⟨rfl, hb⟩; have HS := Lib.hid (HS.out.trans (hb.mono HS.out.size))))
      all_goals
        go_wp2_with fail
        all_goals (go_meet; exact ⟨rfl, HS.out⟩)
    case rest =>
      revert wc
      intro wA hcut
      obtain ⟨rfl, HU⟩ := hcut
      clear p0 p1 p2 p3 y0 y1 y2
      obtain ⟨hb1, y0, y1, y2⟩ := HQ.out wA HU.out
      obtain ⟨-, p0, p1, p2, p3⟩ := HP.out _ hb1
      clear hb1
      go_wp2_with fail
      refine (HTO.out _).mono ?_
      rintro e u3 ⟨rfl, hb⟩
      have HU3 := Lib.hid (HU.out.trans (hb.mono HU.out.size))
      obtain ⟨w4, hw4⟩ : ∃ u, u3.alloc (.cells #[.slice va n vc, .int .i64 lk, .int .i64 ch] 34) = u := ⟨_, rfl⟩
      have hA4 : Below u3.heap.size u3 w4 := by rw [← hw4]; exact (Below.refl _ u3).alloc (Nat.le_refl _) _
      have hx4 : w4.heap[u3.heap.size]? = some (.cells #[.slice va n vc, .int .i64 lk, .int .i64 ch] 34) := by rw [← hw4]; exact heap_alloc_new u3 _
      have hU4 : Below w2.heap.size w2 w4 := HU3.out.trans (hA4.mono HU3.out.size)
      have hb5 : Below w4.heap.size w4 (w4.alloc (.cells #[] 2)) := (Below.refl _ w4).alloc (Nat.le_refl _) _
      have hx5 : (w4.alloc (.cells #[] 2)).heap[w4.heap.size]? = some (.cells #[] 2) := heap_alloc_new w4 _
      have hoa : IsOwn 2 1 w4.heap.size (w4.alloc (.cells #[] 2)) (.slice (some ⟨w4.heap.size, 0, none⟩) 0 0) ([] : List Int).length (tms []) := ⟨w4.heap.size, Nat.le_refl _, rfl, .inr ⟨0, 0, #[], rfl, hx5, Nat.le_refl _, Nat.le_refl _, fun j hj => absurd hj (by simp [tms])⟩⟩
      obtain ⟨a6, c6, w6, hrun, own6, hb6⟩ := own_catT hoa hb5.size (x := .slice va n vc) (l2 := ls) (HV2.out.1.below (hU4.trans (hb5.mono hU4.size))) (by rw [HN.out]; simp; omega)
      simp only [List.length_nil, Nat.zero_add, List.nil_append] at hrun own6
      rw [HN.out] at hrun own6
      have hb46 := hb5.trans hb6
      have hx6 := (hb46.block _ (lt_of_block hx4)).trans hx4
      have hbel6 : Below w2.heap.size w2 w6 := hU4.trans (hb46.mono hU4.size)
      have HTWO : Hid (Two23 w1.heap.size u3.heap.size (w6.setCell ⟨u3.heap.size, 0, none⟩ (.slice a6 n c6)) ⟨ls, lk, ch⟩ ∧ Below w1.heap.size w1 (w6.setCell ⟨u3.heap.size, 0, none⟩ (.slice a6 n c6))) := Lib.hid (by
        have ho := (OnlyS.refl [u3.heap.size] w6).setCell (g := u3.heap.size) (i := 0) (by simp) (.slice a6 n c6)
        have h12 := HV2.out.2.2.2
        have hu3 := HU3.out.size
        have hlt4 := lt_of_block hx4
        have far6 : ∀ b off, a6 = some ⟨b, off, none⟩ → w4.heap.size ≤ b := own_far23 own6
        have htm6 : IsTm w6 (.slice a6 n c6) ls := by rw [← HN.out] at own6 ⊢; exact own6.tm
        refine ⟨⟨va, vc, a6, c6, ?_, ?_, ?_, ?_, ?_, ?_⟩, ?_⟩
        · simp only
          rw [HN.out, ho.block _ (by have := hbel6.size; omega) (by simp; omega)]
          exact (hbel6.block _ h12.2).trans HX2.out
        · simp only
          rw [HN.out]
          refine IsTm.stay (b1 := u3.heap.size) (b2 := u3.heap.size) (HV2.out.1.below hbel6) (ho.mono (by simp)) (fun h0 b off e => ?_)
          have := HV2.out.2.2.1 (by rw [← HN.out]; exact h0) b off e
          omega
        · simp only
          rw [HN.out, heap_setCell_same w6 _ 0 _ _ _ hx6]; rfl
        · simp only
          rw [HN.out]
          exact IsTm.stay htm6 (b1 := u3.heap.size) (b2 := u3.heap.size) (ho.mono (by simp)) (fun _ b off e => by have := far6 b off e; omega)
        · intro h0 b off e
          have := HV2.out.2.2.1 (by simp only at h0; rw [← HN.out]; exact h0) b off e
          omega
        · intro _ b off e
          have := far6 b off e
          omega
        · have h1 := (HQ.out w2 (Below.refl _ _)).1
          have h2 : Below w1.heap.size w1 w6 := h1.trans (hbel6.mono h1.size)
          exact h2.trans (ho.toBelow (fun k hk => by simp at hk; omega) h2.size))
      have hyy := HQ.out _ (hU4.trans (hb5.mono hU4.size))
      clear p0 p1 p2 p3 y0 y1 y2 hb
      obtain ⟨-, y0, y1, y2⟩ := hyy
      have f0 : w6.frozen? ⟨u3.heap.size, 0, none⟩ = false := frozen_of_row _ _ _ _ _ hx6
      have q0 : (w6.cell? ⟨u3.heap.size, 0, none⟩) = some (.slice va n vc) := (box3_of hx6).1
      have HBN : Hid (w2.heap.size ≤ u3.heap.size) := Lib.hid HU3.out.size
      clear hA4 hx4 hU4 hb5 hx5 hoa own6 hb6 hb46 hx6 hbel6
      go_upto_region 7 with (refine wpList_append_run rfl (.tmp 40) (.tmp 42) 24 24 rfl (.slice (some ⟨w4.heap.size, 0, none⟩) 0 0) (.slice va n vc) rfl rfl hrun ?_; clear hrun)
      obtain ⟨b2, hb2⟩ : ∃ b, u3.heap.size = b := ⟨_, rfl⟩
      rw [hb2] at HTWO HBN
      simp only [hb2]
      generalize w6.setCell ⟨b2, 0, none⟩ (.slice a6 n c6) = w7 at *
      have HT1 : Hid (∀ u, Below w1.heap.size w1 u → IsTrys u (.slice ta m tc) l) := Lib.hid (fun u hu => by
        obtain ⟨a, cap, e, hc, h⟩ := HTT.out
        refine ⟨a, cap, e, hc, Lib.hid fun j hj => ?_⟩
        obtain ⟨b, off, h0, h1, h2, h3⟩ := h.out j hj
        have hb := (HP.out u hu).1
        exact ⟨b, off, h0, Nat.lt_of_lt_of_le h1 hb.size, (hb.cell (p := ⟨b, _, none⟩) h1).trans h2, (hb.cell (p := ⟨b, _, none⟩) h1).trans h3⟩)
      have HL12 := Lib.hid HV2.out.2.2.2
      clear y0 y1 y2 f0 q0 hb2 HV2 HQ HX2 HRT HRR HU HU3 HVS HTT HZ hn300 dz dz2 dx1 dx2
      go_wp2_with fail
      go_loopw [47] (fun iv wr => ∃ (i : Nat) (M : Mt.Ps), i ≤ m ∧ iv = .int .i64 (i : Int) ∧ Hid (M.fails.length ≤ 300) ∧ Hid (Two23 w1.heap.size b2 wr M) ∧ Hid (Below w1.heap.size w1 wr)) (fun iv _ => m - (intOf iv).toNat)
      case atStart => exact ⟨0, ⟨ls, lk, ch⟩, Nat.zero_le _, rfl, Lib.hid (by simp only; rw [HN.out]; exact HN300.out), Lib.hid HTWO.out.1, Lib.hid HTWO.out.2⟩
      case round =>
        clear HTWO
        obtain ⟨i, M, hi, rfl, HLM, HTW, HB⟩ := hrel
        by_cases hlt : i < m
        · have hil : i < l.length := by rw [HM.out]; exact hlt
          have d1 : decide ((i : Int) < (m : Int)) = true := decide_eq_true (by omega)
          have d2 : decide (i < m) = true := decide_eq_true hlt
          have i0 : (0 : Int) ≤ (i : Int) := by omega
          have i1 : (i : Int) < (m : Int) := by omega
          have wk : wrap64 ((i : Int) + 1) = ((i + 1 : Nat) : Int) := by have := HM300.out; unfold wrap64; omega
          obtain ⟨ta', tc', e0, -, htc⟩ := HT1.out wr HB.out
          obtain ⟨tb, toff, e1, -, t0, t1⟩ := htc.out i hil
          have e00 : ta = ta' := by injection e0
          rw [← e00] at e1
          subst e1
          clear e0 e00
          obtain ⟨tn, hq⟩ : ∃ q, l[i].1 = q := ⟨_, rfl⟩
          obtain ⟨tr, hq2⟩ : ∃ q, l[i].2 = q := ⟨_, rfl⟩
          rw [hq] at t0
          rw [hq2] at t1
          obtain ⟨L, LK, CH⟩ := M
          obtain ⟨a1, c1, a2, c2, r1, m1, r2, m2, far1, far2⟩ := HTW.out
          simp only at HLM r1 m1 r2 m2 far1 far2
          obtain ⟨k, hk⟩ : ∃ k, L.length = k := ⟨_, rfl⟩
          have HK := Lib.hid hk
          rw [hk] at HLM r1 m1 r2 m2 far1 far2
          have HM1 := Lib.hid (And.intro m1 m2)
          have HR := Lib.hid (And.intro r1 r2)
          have HFA := Lib.hid (And.intro far1 far2)
          obtain ⟨w3, hw3⟩ : ∃ u, wr.alloc (.cells #[.int .i64 tn, .bool tr] 37) = u := ⟨_, rfl⟩
          have hA3 : Below wr.heap.size wr w3 := by rw [← hw3]; exact (Below.refl _ wr).alloc (Nat.le_refl _) _
          have hx3 : w3.heap[wr.heap.size]? = some (.cells #[.int .i64 tn, .bool tr] 37) := by rw [← hw3]; exact heap_alloc_new wr _
          have hb5 : Below w3.heap.size w3 (w3.alloc (.cells #[] 2)) := (Below.refl _ w3).alloc (Nat.le_refl _) _
          have hx5 : (w3.alloc (.cells #[] 2)).heap[w3.heap.size]? = some (.cells #[] 2) := heap_alloc_new w3 _
          have hoa : IsOwn 2 1 w3.heap.size (w3.alloc (.cells #[] 2)) (.slice (some ⟨w3.heap.size, 0, none⟩) 0 0) ([] : List Int).length (tms []) := ⟨w3.heap.size, Nat.le_refl _, rfl, .inr ⟨0, 0, #[], rfl, hx5, Nat.le_refl _, Nat.le_refl _, fun j hj => absurd hj (by simp [tms])⟩⟩
          obtain ⟨a5, c5, w5, hrun, own5, hb35⟩ := own_catT hoa hb5.size (x := .slice a1 k c1) (l2 := L) (m1.below (hA3.trans (hb5.mono hA3.size))) (by rw [HK.out]; have := HLM.out; simp; omega)
          simp only [List.length_nil, Nat.zero_add, List.nil_append] at hrun own5
          rw [HK.out] at hrun own5
          have hb15 : Below wr.heap.size wr w5 := hA3.trans ((hb5.trans hb35).mono hA3.size)
          have hx35 := ((hb5.trans hb35).block _ (lt_of_block hx3)).trans hx3
          have HW5 : Hid (IsTm w5 (.slice a5 k c5) L ∧ Below wr.heap.size wr w5) := Lib.hid ⟨by rw [← HK.out] at own5 ⊢; exact own5.tm, hb15⟩
          have HX5 : Hid (∀ u, Below w5.heap.size w5 u → Below wr.heap.size wr u ∧ Below w1.heap.size w1 u ∧ (u.cell? ⟨w.heap.size, 0, none⟩ = some (.int .i64 f) ∧ u.cell? ⟨w.heap.size, 1, none⟩ = some (.int .i64 wi) ∧ u.cell? ⟨w.heap.size, 2, none⟩ = some (.int .i64 lo) ∧ u.cell? ⟨w.heap.size, 3, none⟩ = some (.int .i64 ag)) ∧ (u.cell? ⟨w1.heap.size, 0, none⟩ = some (.slice a1 k c1) ∧ u.cell? ⟨w1.heap.size, 1, none⟩ = some (.int .i64 LK) ∧ u.cell? ⟨w1.heap.size, 2, none⟩ = some (.int .i64 CH)) ∧ (u.cell? ⟨b2, 0, none⟩ = some (.slice a2 k c2) ∧ u.cell? ⟨b2, 1, none⟩ = some (.int .i64 LK) ∧ u.cell? ⟨b2, 2, none⟩ = some (.int .i64 CH)) ∧ (u.cell? ⟨wr.heap.size, 0, none⟩ = some (.int .i64 tn) ∧ u.cell? ⟨wr.heap.size, 1, none⟩ = some (.bool tr))) := Lib.hid (fun u hu => by
            have h1 := hb15.trans (hu.mono hb15.size)
            have h2 := HB.out.trans (h1.mono HB.out.size)
            refine ⟨h1, h2, (HP.out u h2).2, box3_of ((h1.block _ (lt_of_block r1)).trans r1), box3_of ((h1.block _ (lt_of_block r2)).trans r2), ?_⟩
            have h3 := (hu.block _ (lt_of_block hx35)).trans hx35
            exact ⟨by rw [cell_of_row _ _ _ _ _ _ h3]; rfl, by rw [cell_of_row _ _ _ _ _ _ h3]; rfl⟩)
          have HT : Hid (∀ u, Below w5.heap.size w5 u → Calls Try.prog 16 #[.agg #[.int .i64 f, .int .i64 wi, .int .i64 lo, .int .i64 ag], .agg #[.slice a1 k c1, .int .i64 LK, .int .i64 CH], .int .i64 tn, .bool tr] u fun e w' => ∃ x, e = .returned (.tuple #[x, .int .i64 (Mt.tryL ⟨f, wi, lo, ag⟩ ⟨L, LK, CH⟩ tn tr).2]) ∧ OwnSt u.heap.size w' x (Mt.tryL ⟨f, wi, lo, ag⟩ ⟨L, LK, CH⟩ tn tr).1 ∧ Below u.heap.size u w') := Lib.hid (fun u hu => try23_any (s := ⟨L, LK, CH⟩) ⟨f, wi, lo, ag⟩ tn tr (HM1.out.1.below (HX5.out u hu).1) (by simp only; rw [HK.out]; have := HLM.out; omega))
          have HRTY : Hid (∀ u, Below w5.heap.size w5 u → Calls Try.prog 17 #[.agg #[.int .i64 f, .int .i64 wi, .int .i64 lo, .int .i64 ag], .agg #[.slice a2 k c2, .int .i64 LK, .int .i64 CH], .int .i64 tn, .bool tr] u fun e w' => ∃ x, e = .returned (.tuple #[stV x (Mt.tryL ⟨f, wi, lo, ag⟩ ⟨L, LK, CH⟩ tn tr).1, .int .i64 (Mt.tryL ⟨f, wi, lo, ag⟩ ⟨L, LK, CH⟩ tn tr).2]) ∧ IsTm w' x (Mt.tryL ⟨f, wi, lo, ag⟩ ⟨L, LK, CH⟩ tn tr).1.fails ∧ Below u.heap.size u w' ∧ FarSl x (.slice a2 k c2) u.heap.size) := Lib.hid (fun u hu => rtry23_any (s := ⟨L, LK, CH⟩) ⟨f, wi, lo, ag⟩ tn tr (HM1.out.2.below (HX5.out u hu).1) (by simp only; rw [HK.out]; have := HLM.out; omega))
          have hlen' := tryL_len ⟨f, wi, lo, ag⟩ ⟨L, LK, CH⟩ tn tr (by simp only; rw [HK.out]; exact HLM.out)
          obtain ⟨⟨⟨L', LK', CH'⟩, cR⟩, hTR⟩ : ∃ T, Mt.tryL ⟨f, wi, lo, ag⟩ ⟨L, LK, CH⟩ tn tr = T := ⟨_, rfl⟩
          rw [hTR] at HT HRTY hlen'
          simp only at HT HRTY hlen'
          obtain ⟨k', hk'⟩ : ∃ k, L'.length = k := ⟨_, rfl⟩
          have HK' := Lib.hid hk'
          rw [hk'] at hlen'
          have HL' := Lib.hid hlen'
          have y00 := (hb5.block _ (Nat.lt_of_lt_of_le (lt_of_block r1) hA3.size)).trans ((hA3.block _ (lt_of_block r1)).trans r1)
          have y01 := (box3_of y00).1
          clear hA3 hx3 hb5 hx5 hoa own5 hb35 hb15 hx35 hTR hlen' hk hk' r1 r2 m1 m2 far1 far2 htc y00 hq hq2 hil
          go_upto_region 11 with (refine wpList_append_run rfl (.tmp 51) (.tmp 53) 24 24 rfl (.slice (some ⟨w3.heap.size, 0, none⟩) 0 0) (.slice a1 k c1) rfl rfl hrun ?_; clear hrun)
          clear hw3 y01
          have HR5 := Lib.hid (Below.refl w5.heap.size w5)
          obtain ⟨-, -, hp5, hy5, hz5, ht5⟩ := HX5.out w5 HR5.out
          obtain ⟨p0, p1, p2, p3⟩ := hp5
          obtain ⟨y0, y1, y2⟩ := hy5
          obtain ⟨q0, q1⟩ := ht5
          have HTc := Lib.hid (HT.out w5 HR5.out)
          clear hz5 t0 t1
          go_wp2_with fail
          refine (HTc.out).mono ?_
          rintro e u6 ⟨x, rfl, hown, hb⟩
          obtain ⟨a6, c6, rfl, ht6, hf6⟩ := hown.raw (n := k') HK'.out
          have HR6 := Lib.hid (HR5.out.trans hb)
          obtain ⟨w7, hw7⟩ : ∃ u, u6.alloc (.cells #[.slice a6 k' c6, .int .i64 LK', .int .i64 CH'] 26) = u := ⟨_, rfl⟩
          have hA7 : Below u6.heap.size u6 w7 := by rw [← hw7]; exact (Below.refl _ u6).alloc (Nat.le_refl _) _
          have hx7 : w7.heap[u6.heap.size]? = some (.cells #[.slice a6 k' c6, .int .i64 LK', .int .i64 CH'] 26) := by rw [← hw7]; exact heap_alloc_new u6 _
          have HR7 := Lib.hid (HR6.out.trans (hA7.mono HR6.out.size))
          have HX7 : Hid (∀ u, Below w7.heap.size w7 u → Below w5.heap.size w5 u ∧ IsTm u (.slice a6 k' c6) L' ∧ u.heap[u6.heap.size]? = some (.cells #[.slice a6 k' c6, .int .i64 LK', .int .i64 CH'] 26)) := Lib.hid (fun u hu => ⟨HR7.out.trans (hu.mono HR7.out.size), (ht6.below hA7).below hu, (hu.block _ (lt_of_block hx7)).trans hx7⟩)
          have HF6 := Lib.hid hf6
          clear hb hown ht6 hf6 hA7 hx7 p0 p1 p2 p3 y0 y1 y2 q0 q1 HTc
          go_upto_region 12 with fail
          clear hw7
          obtain ⟨-, -, hp5, hy5, hz5, ht5⟩ := HX5.out w7 HR7.out
          obtain ⟨p0, p1, p2, p3⟩ := hp5
          obtain ⟨z0, z1, z2⟩ := hz5
          obtain ⟨q0, q1⟩ := ht5
          have HTc := Lib.hid (HRTY.out w7 HR7.out)
          clear hy5
          go_wp2_with fail
          refine (HTc.out).mono ?_
          rintro e u8 ⟨x, rfl, ht8, hb, hfs⟩
          obtain ⟨a8, c8, rfl, -, -⟩ := id ht8
          unfold stV
          simp only at ht8 hfs ⊢
          rw [HK'.out] at ht8 hfs ⊢
          have HR8 := Lib.hid (HR7.out.trans (hb.mono HR7.out.size))
          obtain ⟨w9, hw9⟩ : ∃ u, u8.alloc (.cells #[.slice a8 k' c8, .int .i64 LK', .int .i64 CH'] 34) = u := ⟨_, rfl⟩
          have hA9 : Below u8.heap.size u8 w9 := by rw [← hw9]; exact (Below.refl _ u8).alloc (Nat.le_refl _) _
          have hx9 : w9.heap[u8.heap.size]? = some (.cells #[.slice a8 k' c8, .int .i64 LK', .int .i64 CH'] 34) := by rw [← hw9]; exact heap_alloc_new u8 _
          have h79 : Below w7.heap.size w7 w9 := hb.trans (hA9.mono hb.size)
          have HX9 : Hid (∀ u, Below w9.heap.size w9 u → Below w7.heap.size w7 u ∧ IsTm u (.slice a8 k' c8) L' ∧ u.heap[u8.heap.size]? = some (.cells #[.slice a8 k' c8, .int .i64 LK', .int .i64 CH'] 34)) := Lib.hid (fun u hu => ⟨h79.trans (hu.mono h79.size), (ht8.below hA9).below hu, (hu.block _ (lt_of_block hx9)).trans hx9⟩)
          have HFS := Lib.hid hfs
          clear hb ht8 hfs hA9 hx9 h79 p0 p1 p2 p3 z0 z1 z2 q0 q1 HTc
          go_upto_region 13 with fail
          clear hw9
          have HT2 : Hid (∀ u : World, Calls Try.prog 15 #[.agg #[.slice a6 k' c6, .int .i64 LK', .int .i64 CH']] u fun e w' => e = .returned (.agg #[.slice a6 k' c6, .int .i64 LK', .int .i64 CH']) ∧ Below u.heap.size u w') := Lib.hid (fun u => to23_any (v := .slice a6 k' c6) ⟨L', LK', CH'⟩ u ⟨_, _, _, rfl⟩)
          have HS1 : Hid (∀ u, Below w9.heap.size w9 u → Calls Try.prog 18 #[.agg #[.slice a6 k' c6, .int .i64 LK', .int .i64 CH'], .agg #[.slice a8 k' c8, .int .i64 LK', .int .i64 CH']] u fun e w' => e = .returned (.bool true) ∧ Below u.heap.size u w') := Lib.hid (fun u hu => same23_any LK' CH' (HX7.out u (HX9.out u hu).1).2.1 (HX9.out u hu).2.1 (by rw [HK'.out]; have := HL'.out; omega))
          have HS2 : Hid (∀ u, Below w9.heap.size w9 u → Calls Try.prog 18 #[.agg #[.slice a5 k c5, .int .i64 0, .int .i64 0], .agg #[.slice a1 k c1, .int .i64 0, .int .i64 0]] u fun e w' => e = .returned (.bool true) ∧ Below u.heap.size u w') := Lib.hid (fun u hu => by
            have h5 := (HX7.out u (HX9.out u hu).1).1
            exact same23_any 0 0 (HW5.out.1.below h5) (HM1.out.1.below (HX5.out u h5).1) (by rw [HK.out]; have := HLM.out; omega))
          have HPC : Hid (∀ u, Below w9.heap.size w9 u → (u.cell? ⟨u6.heap.size, 0, none⟩ = some (.slice a6 k' c6) ∧ u.cell? ⟨u6.heap.size, 1, none⟩ = some (.int .i64 LK') ∧ u.cell? ⟨u6.heap.size, 2, none⟩ = some (.int .i64 CH')) ∧ (u.cell? ⟨u8.heap.size, 0, none⟩ = some (.slice a8 k' c8) ∧ u.cell? ⟨u8.heap.size, 1, none⟩ = some (.int .i64 LK') ∧ u.cell? ⟨u8.heap.size, 2, none⟩ = some (.int .i64 CH')) ∧ u.cell? ⟨w1.heap.size, 0, none⟩ = some (.slice a1 k c1)) := Lib.hid (fun u hu => by
            have h9 := HX9.out u hu
            have h7 := HX7.out u h9.1
            exact ⟨box3_of h7.2.2, box3_of h9.2.2, (HX5.out u h7.1).2.2.2.1.1⟩)
          have dc1 : (cR == cR) = true := beq_self_eq_true _
          have dc2 : (cR != cR) = false := by simp
          have HS : Hid (Below w9.heap.size w9 w9.drew) := Lib.hid (Below.refl _ w9).drew
          obtain ⟨⟨n0, n1, n2⟩, ⟨v0, v1, v2⟩, y0⟩ := HPC.out w9 (Below.refl _ _)
          go_cut [93] from 75 to 93 (fun t93 wx => t93 = .bool false ∧ Hid (Below w9.heap.size w9 wx))
          case first =>
            go_region_held3 (fun w' => (w'.cell? ⟨u6.heap.size, 0, none⟩ = some (.slice a6 k' c6) ∧ w'.cell? ⟨u6.heap.size, 1, none⟩ = some (.int .i64 LK') ∧ w'.cell? ⟨u6.heap.size, 2, none⟩ = some (.int .i64 CH')) ∧ (w'.cell? ⟨u8.heap.size, 0, none⟩ = some (.slice a8 k' c8) ∧ w'.cell? ⟨u8.heap.size, 1, none⟩ = some (.int .i64 LK') ∧ w'.cell? ⟨u8.heap.size, 2, none⟩ = some (.int .i64 CH')) ∧ w'.cell? ⟨w1.heap.size, 0, none⟩ = some (.slice a1 k c1))
              (first
                | with_reducible exact HPC.out _ HS.out
                | go_keep)
              (first
                | (go_at_call 15; refine (HT2.out _).mono ?_; rintro e u11 ⟨rfl, hb⟩; have HS := Lib.hid (HS.out.trans (hb.mono HS.out.size)))
                | (go_at_call 18; with_reducible refine (HS1.out _ HS.out).mono ?_; rintro e u11 ⟨rfl, hb⟩; have HS := Lib.hid (HS.out.trans (hb.mono HS.out.size)))
                | (go_at_call 18; with_reducible refine (HS2.out _ HS.out).mono ?_; rintro e u11 ⟨rfl, hb⟩; have HS := Lib.hid (HS.out.trans (hb.mono HS.out.size))))
            all_goals
              go_wp2_with fail
              all_goals (go_meet; exact ⟨rfl, HS.out⟩)
          case rest =>
            revert wc
            intro wB hcut
            obtain ⟨rfl, HUB⟩ := hcut
            have h9 := HX9.out wB HUB.out
            have h7 := HX7.out wB h9.1
            have h5 := HX5.out wB h7.1
            obtain ⟨r1, r2⟩ := HR.out
            have R1 := (h5.1.block _ (lt_of_block r1)).trans r1
            have R2 := (h5.1.block _ (lt_of_block r2)).trans r2
            have hlt1 := lt_of_block r1
            have hlt2 := lt_of_block r2
            have h12 := HL12.out.2
            have hbn := HBN.out
            have hne : w1.heap.size ≠ b2 := by omega
            have s5 := HW5.out.2.size
            have s6 := HR6.out.size
            have s7 := HR7.out.size
            have s8 := HR8.out.size
            have hf2 : Far2 a8 k' w1.heap.size b2 := by
              rcases HFS.out with e | ⟨a9, n9, c9, e, hf⟩
              · injection e with e1 e2 e3
                rw [e1, e2]
                exact HFA.out.2
              · injection e with e1 e2 e3
                intro _ b off e4
                have := hf b off (by rw [← e1]; exact e4)
                omega
            have hf1 : Far2 a6 k' w1.heap.size b2 := fun _ b off e4 => by
              have := HF6.out b off e4
              omega
            have hfin := put3_two (m := ⟨L', LK', CH'⟩) (w0 := w1) hne HK'.out h5.2.1 (Nat.le_refl _) (by omega) R1 R2 h7.2.1 h9.2.1 hf1 hf2
            have RN := h7.2.2
            have RV := h9.2.2
            have o1 := put3_only wB w1.heap.size (.slice a6 k' c6) (.int .i64 LK') (.int .i64 CH')
            have o2 := put3_only wB b2 (.slice a8 k' c8) (.int .i64 LK') (.int .i64 CH')
            have RV1 := (o1.block u8.heap.size (lt_of_block RV) (by simp; omega)).trans RV
            have R21 := (o1.block b2 (lt_of_block R2) (by simp; omega)).trans R2
            have RN2 := (o2.block u6.heap.size (lt_of_block RN) (by simp; omega)).trans RN
            have R12 := (o2.block w1.heap.size (lt_of_block R1) (by simp; omega)).trans R1
            unfold put3 at RV1 R21 RN2 R12 hfin
            have HFIN := Lib.hid hfin
            clear hfin o1 o2 hf1 hf2 h9 h7 h5 r1 r2 hlt1 hlt2 h12 hbn hne s5 s6 s7 s8 n0 n1 n2 v0 v1 v2 y0
            obtain ⟨n0, n1, n2⟩ := box3_of RN
            obtain ⟨v0, v1, v2⟩ := box3_of RV
            obtain ⟨n3, n4, n5⟩ := box3_of RN2
            obtain ⟨v3, v4, v5⟩ := box3_of RV1
            obtain ⟨-, f0, f1, f2⟩ := box3F_of R1
            obtain ⟨-, g0, g1, g2⟩ := box3F_of R2
            obtain ⟨-, f3, f4, f5⟩ := box3F_of R12
            obtain ⟨-, g3, g4, g5⟩ := box3F_of R21
            obtain ⟨x0, x1, x2⟩ := box3_of R1
            obtain ⟨z0, z1, z2⟩ := box3_of R2
            obtain ⟨x3, x4, x5⟩ := box3_of R12
            obtain ⟨z3, z4, z5⟩ := box3_of R21
            clear RN RV RN2 RV1 R1 R2 R12 R21
            go_wp2_with fail
            go_region
            all_goals
              go_wp2_with fail
              go_roundw
              case rel => exact ⟨i + 1, ⟨L', LK', CH'⟩, by omega, by first | exact congrArg _ wk | rfl | go_num, Lib.hid (by simp only; rw [HK'.out]; exact HL'.out), by first | with_reducible exact Lib.hid (two_drew HFIN.out.1.1) | with_reducible exact Lib.hid (two_drew HFIN.out.2.1) | with_reducible exact Lib.hid HFIN.out.1.1 | with_reducible exact Lib.hid HFIN.out.2.1, by first | with_reducible exact Lib.hid HFIN.out.1.2.drew | with_reducible exact Lib.hid HFIN.out.2.2.drew | with_reducible exact Lib.hid HFIN.out.1.2 | with_reducible exact Lib.hid HFIN.out.2.2⟩
              case measure => first | exact meas_step hlt | (rw [wk]; exact meas_step hlt)
        · obtain rfl : i = m := by omega
          have d1 : decide ((i : Int) < (i : Int)) = false := decide_eq_false (by omega)
          have d2 : decide (i < i) = false := decide_eq_false (by omega)
          go_wp2_with fail
          refine (HAW.out _).mono ?_
          rintro e u9 ⟨rfl, hb⟩
          go_wp2_with fail
          all_goals (go_ret; exact ⟨rfl, (HP.out _ HB.out).1.trans (hb.mono (HP.out _ HB.out).1.size)⟩)

/-! The step from the walk to the row. -/
theorem own : ownKnob Try.prog.godebug = none := by kernel_rfl
theorem laidOut : laidOutB Try.prog = true := by kernel_rfl

set_option maxRecDepth 100000 in
theorem lifted (os : Os) (started : os.Started) (H : Type) (enc : TypeId × Value → H) :
    ReturnsInHanded {} Try.checked os 3 .any (Rows.policyTriesSpec.pre6 enc Try.prog Try.f3 Rows.policyTriesRow.domain false) (Rows.policyTriesSpec.post enc Try.prog Try.f3 false true false false) := by
  refine returnsInHanded_of_change_sized (C := Try.checked) own started (by kernel_rfl) Try.func3
    (ChangeSpec.witness6 (enc := enc) (C := Try.checked) false ⟨#[], #[.agg #[.int .i64 0, .int .i64 0, .int .i64 0, .int .i64 0], .agg #[.slice none 0 0, .int .i64 0, .int .i64 0], .slice none 0 0], []⟩ 8 (by kernel_rfl) (by kernel_rfl) (by kernel_rfl) (by kernel_rfl)) ?_
  intro W base args ds gs before hval0 hW _ hsz0 _
  have hsz : (DataW.weightsEach Try.prog (Try.f3.params.toList ++ Rows.policyTriesSpec.plain.varTypes Try.prog) (ds ++ gs)).all (· ≤ reachBytes) = true := hsz0
  have hval : ∀ (j : Nat) t v, Try.f3.params[j]? = some t → args[j]? = some v → Value.okWide Try.prog W .any base t v := hval0
  have hW' := hW
  obtain ⟨p, q, hA0, hV, rfl, _, _⟩ := hW
  have hA : DataW.TrodAll enc Try.prog W 0 (fun _ => true) true Try.f3.params.toList args.toList ds p := hA0
  rw [Try.params3] at hA hval hsz
  obtain ⟨v0, vs0, d0, ds0, p0, q0, hargs, rfl, rfl, h0, r0⟩ := trodAll_cons hA
  obtain ⟨v1, vs1, d1, ds1, p1, q1, rfl, rfl, rfl, h1, r1⟩ := trodAll_cons r0
  obtain ⟨v2, vs2, d2, ds2, p2, q2, rfl, rfl, rfl, h2, r2⟩ := trodAll_cons r1
  obtain ⟨rfl, rfl, rfl⟩ := trodAll_nil r2
  obtain rfl : args = #[v0, v1, v2] := by cases args; simp_all
  obtain ⟨rfl, rfl⟩ := trodVars_none hV
  have k0 := h0
  have lt0 : ∀ x ∈ p0, x.block < W.heap.size := by obtain ⟨m, hm⟩ := k0; exact DataW.trod_lt m _ _ _ hm
  obtain ⟨f0, wi0, lo0, ag0, rfl⟩ := open_pol (hval 0 23 v0 rfl rfl) h0
  have k1 := h1
  have lt1 : ∀ x ∈ p1, x.block < W.heap.size := by obtain ⟨m, hm⟩ := k1; exact DataW.trod_lt m _ _ _ hm
  obtain ⟨fv1, s1, rfl, w1⟩ := open_pst (hval 1 26 v1 rfl rfl) h1
  obtain ⟨a2, n2, c2, rfl⟩ := okWide_slice Try.underlying27 (hval 2 27 v2 rfl rfl)
  have k2 := h2
  have lt2 : ∀ x ∈ p2, x.block < W.heap.size := by obtain ⟨m, hm⟩ := k2; exact DataW.trod_lt m _ _ _ hm
  obtain ⟨l2, w2⟩ := open_trys h2
  clear hA0 hval0
  simp only [List.append_nil] at hW'
  refine (walk f0 wi0 lo0 ag0 fv1 s1 l2 (.slice a2 n2 c2)  W w1 w2).mono fun e W' ⟨he, bel⟩ => ?_
  subst he
  exact ⟨_, rfl, _, _, _, [], _, [], hW', trodAll_mk1 (shut_bool Try.underlying4 _), (trodAll_cons_mk (Below.trod laidOut (by kernel_rfl) (of_decide_eq_true (by kernel_rfl)) k0 bel lt0) (trodAll_cons_mk (Below.trod laidOut (by kernel_rfl) (of_decide_eq_true (by kernel_rfl)) k1 bel lt1) (trodAll_cons_mk (Below.trod laidOut (by kernel_rfl) (of_decide_eq_true (by kernel_rfl)) k2 bel lt2) trodAll_mk0))), rfl, bel.frame _, fun h => by cases h⟩

theorem proved : Rows.PolicyTriesSaid :=
  OpenClaim.holds_of_wide 3 Try.f3 rfl rfl rfl rfl rfl rfl rfl ⟨rfl, rfl, rfl, rfl, rfl⟩ rfl rfl rfl rfl rfl (by kernel_rfl) Try.func3 (by kernel_rfl)
    (of_decide_eq_true (by kernel_rfl)) (by unfold Func.isWrapper; first | (rw [if_pos (by decide +kernel)]; kernel_rfl) | (rw [if_neg (by decide +kernel)]; exact ⟨rfl, rfl⟩))
    (fun os started H enc _ => lifted os started H enc)

#print axioms proved
end Go.Proofs.Ytcijjblcoelabaa.policyTries
