/-
  What the document's Twin comes to.
-/
import Derived.Test.YtfnggifadhploaaTvP
import Derived.Deep.RegionLaw
import Derived.Deep.DeepMust
import Derived.Deep.Cut
namespace Go.Proofs.Ytfnggifadhploaa
open Go.RowKit

theorem step_append_run {P : Program} {ops : Array Oper} {o : Oper} {a : Act} {w : World} {K : Act → World → Prop} {Q : Exit → Act → World → Prop} {E : Prop}
    (hg : o.guard = none) (s x : Operand) (t t' : TypeId) (hop : o.op = Op.call { callee := Callee.builtin Builtin.append, args := #[s, x], argTypes := #[t, t'] })
    (v u : Value) (hs : a.eval s = v) (hx : a.eval x = u) {v' : Value} {w' : World} (hr : ∀ ty, (Builtin.append_ #[t, t'] ty #[v, u]).run P w = .ok v' w')
    (hK : K (a.put o.dst v') w') : if Region.wanted o (yielded ops a.tmps) = true then Oper.wp P o a w K Q else E := by
  have hw : Region.wanted o (yielded ops a.tmps) = true := by simp [Region.wanted, hg]
  rw [if_pos hw]
  unfold Oper.wp
  simp [execOp, hop, resolve, invoke, builtin, hs, hx, hr, Result.andThen]
  exact hK

/-- One tree more, made by a call, behind those that were made. -/
theorem nds_step {w w2 : World} {base h g k : Nat} {a2 : Option Addr} {c2 : Nat} {xs : List Value} {ns : List Mt.Nd} (hrw : IsRw 24 3 w g (.slice a2 k c2) k xs) (hn : AreNds w (fun b => base ≤ b ∧ b ≠ g) h xs ns) (hk : k = ns.length) (hg : base ≤ g) (hbase : base ≤ w.heap.size)
    {n : Mt.Nd} {x0 x1 x2 : Value} (hx : IsNd w2 (fun b => w.heap.size ≤ b) h (.agg #[x0, x1, x2]) n) (hb : Below w.heap.size w w2) (hlen : (k + 1) * 48 ≤ 140737488355328) :
    ∃ a3 c3 w3 g3 xs3, (∀ ty, (Builtin.append_ #[22, 22] ty #[.slice a2 k c2, .slice (some ⟨w2.heap.size, 0, none⟩) 1 1]).run Try.prog (w2.alloc (.cells #[x0, x1, x2] 24)) = .ok (.slice a3 (k + 1) c3) w3) ∧ IsRw 24 3 w3 g3 (.slice a3 (k + 1) c3) (k + 1) xs3 ∧
      AreNds w3 (fun b => base ≤ b ∧ b ≠ g3) h xs3 (ns ++ [n]) ∧ base ≤ g3 ∧ Below base w2 w3 := by
  subst hk
  have hsz := hb.size
  have hnorm : ∃ g2, IsRw 24 3 w2 g2 (.slice a2 ns.length c2) ns.length xs ∧ AreNds w2 (fun b => base ≤ b ∧ b ≠ g2) h xs ns ∧ base ≤ g2 ∧ IsNd w2 (fun b => base ≤ b ∧ b ≠ g2) h (.agg #[x0, x1, x2]) n := by
    rcases hrw.norm (w2.heap.size + base + 1) with hg1 | hrw1
    · exact ⟨g, hrw.below hb, hn.keep (fun _ h _ => h) (fun b _ hlt => hb.block b hlt), hg, hx.mono (Nat.le_refl _) (fun b hb _ => ⟨by omega, by omega⟩)⟩
    · exact ⟨_, hrw1.below hb, hn.keep (fun b h hlt => ⟨h.1, by omega⟩) (fun b _ hlt => hb.block b hlt), by omega, hx.mono (Nat.le_refl _) (fun b hb hlt => ⟨by omega, by omega⟩)⟩
  obtain ⟨g2, hrw2, hnds2, hg2, hn2⟩ := hnorm
  obtain ⟨v3, w3, g3, hrun, hrw3, hnds3, hg3, ho3, _⟩ := nds_append hrw2 hnds2 hg2 (by omega) hn2 hlen
  obtain ⟨a3, c3, rfl⟩ := hrw3.form
  rw [List.length_append, List.length_singleton] at hrw3 hrun
  exact ⟨a3, c3, w3, g3, _, hrun, hrw3, hnds3, hg3, ho3.toBelow (by simpa using hg2) (by omega)⟩

/-- What Twin answers. -/
def TwinP (w : World) (h : Nat) (n : Mt.Nd) (e : Ending) (w' : World) : Prop := ∃ a c, e = .returned (.agg #[.int .i64 n.tag, .string (Mt.str n.data), .slice a n.kids.length c]) ∧ IsNd w' (fun b => w.heap.size ≤ b) h (.agg #[.int .i64 n.tag, .string (Mt.str n.data), .slice a n.kids.length c]) n ∧ Below w.heap.size w w'

/-- What holds at the head of a round of Twin: the three boxes, and the twins so far. -/
def TwinR (w : World) (h : Nat) (t : Int) (D : List UInt8) (a : Option Addr) (c : Nat) (ks : List Mt.Nd) (k : Nat) (wr : World) : Prop :=
  ∃ a2 c2 g xs, wr.heap[w.heap.size]? = some (.cells #[.int .i64 t, .string (Mt.str D), .slice a ks.length c] 24 (0, 0)) ∧
    wr.heap[w.heap.size + 1]? = some (.cells #[.int .i64 0, .string ByteArray.empty, .slice none 0 0] 24 (0, 0)) ∧
    wr.heap[w.heap.size + 1 + 1]? = some (.cells #[.int .i64 t, .string (Mt.str D), .slice a2 k c2] 24 (0, 0)) ∧
    IsRw 24 3 wr g (.slice a2 k c2) k xs ∧ AreNds wr (fun b => w.heap.size + 3 ≤ b ∧ b ≠ g) h xs (ks.take k) ∧ w.heap.size + 3 ≤ g ∧ Below w.heap.size w wr

set_option maxRecDepth 100000 in
set_option maxHeartbeats 1000000 in
theorem twin_any : ∀ (h : Nat) (n : Mt.Nd) (v : Value) (w : World) (ok : Nat → Prop), IsNd w ok h v n → Calls Try.prog 18 #[v] w (TwinP w h n) := by
  intro h
  induction h with
  | zero => intro n v w ok hn; exact hn.elim
  | succ h ih =>
    intro n v w ok hn
    obtain ⟨a, c, rfl, hD, hk, hkids⟩ := hn
    obtain ⟨t, D, ks⟩ := n
    simp only [Mt.Nd.tag, Mt.Nd.data, Mt.Nd.kids] at hD hk hkids ⊢
    have HIH := Lib.hid ih
    have HK := Lib.hid hkids
    have HDD := Lib.hid (And.intro hD hk)
    have hk2 : (ks.length : Int) ≤ 9223372036854775807 := by omega
    obtain ⟨w3, hw3⟩ : ∃ w3, ((w.alloc (.cells #[.int .i64 t, .string (Mt.str D), .slice a ks.length c] 24)).alloc (.cells #[.int .i64 0, .string ByteArray.empty, .slice none 0 0] 24)).alloc (.cells #[.int .i64 t, .string (Mt.str D), .slice none 0 0] 24) = w3 := ⟨_, rfl⟩
    have hs1 : (w.alloc (.cells #[.int .i64 t, .string (Mt.str D), .slice a ks.length c] 24)).heap.size = w.heap.size + 1 := by simp
    have hs2 : ((w.alloc (.cells #[.int .i64 t, .string (Mt.str D), .slice a ks.length c] 24)).alloc (.cells #[.int .i64 0, .string ByteArray.empty, .slice none 0 0] 24)).heap.size = w.heap.size + 1 + 1 := by simp
    have hb1 := (Below.refl w.heap.size w).alloc (Nat.le_refl _) (.cells #[.int .i64 t, .string (Mt.str D), .slice a ks.length c] 24)
    have hr1 := heap_alloc_new w (.cells #[.int .i64 t, .string (Mt.str D), .slice a ks.length c] 24)
    have hb2 := (Below.refl (w.heap.size + 1) (w.alloc (.cells #[.int .i64 t, .string (Mt.str D), .slice a ks.length c] 24))).alloc (by rw [hs1]; exact Nat.le_refl _) (.cells #[.int .i64 0, .string ByteArray.empty, .slice none 0 0] 24)
    have hr2 := heap_alloc_new (w.alloc (.cells #[.int .i64 t, .string (Mt.str D), .slice a ks.length c] 24)) (.cells #[.int .i64 0, .string ByteArray.empty, .slice none 0 0] 24)
    have hb3 := (Below.refl (w.heap.size + 1 + 1) ((w.alloc (.cells #[.int .i64 t, .string (Mt.str D), .slice a ks.length c] 24)).alloc (.cells #[.int .i64 0, .string ByteArray.empty, .slice none 0 0] 24))).alloc (by rw [hs2]; exact Nat.le_refl _) (.cells #[.int .i64 t, .string (Mt.str D), .slice none 0 0] 24)
    have hr3 := heap_alloc_new ((w.alloc (.cells #[.int .i64 t, .string (Mt.str D), .slice a ks.length c] 24)).alloc (.cells #[.int .i64 0, .string ByteArray.empty, .slice none 0 0] 24)) (.cells #[.int .i64 t, .string (Mt.str D), .slice none 0 0] 24)
    rw [hs1] at hr2
    rw [hs2] at hr3
    have HR0 : Hid (TwinR w h t D a c ks 0 w3) := by
      refine ⟨none, 0, w.heap.size + 3, [], ?_, ?_, ?_, IsRw.nil _ _ _ _, by simp [List.take_zero]; exact AreNds.nil _ _ _, Nat.le_refl _, ?_⟩
      · rw [← hw3]; exact (hb3.block _ (by omega)).trans ((hb2.block _ (by omega)).trans hr1)
      · rw [← hw3]; exact (hb3.block _ (by omega)).trans hr2
      · rw [← hw3]; exact hr3
      · rw [← hw3]; exact (hb1.trans (hb2.mono (by omega))).trans (hb3.mono (by omega))
    rw [← hw3] at HR0
    clear hw3 hs1 hs2 hb1 hb2 hb3 hr1 hr2 hr3 hkids hD hk ih
    go_enter Try.func18, Try.ntmps18
    go_wp2_with fail
    go_loopw [13] (fun iv wr => ∃ k : Nat, k ≤ ks.length ∧ iv = .int .i64 k ∧ Hid (TwinR w h t D a c ks k wr)) (fun iv _ => ks.length - (intOf iv).toNat)
    case atStart => exact ⟨0, Nat.zero_le _, rfl, HR0⟩
    case round =>
      obtain ⟨k, hk, rfl, HR⟩ := hrel
      by_cases hlt : k < ks.length
      · obtain ⟨a2, c2, g, xs, q1, q2, q3, hrw, hnds, hg, hbw⟩ := HR.out
        obtain hnil | ⟨ba, oa, rfl, _, hca⟩ := HK.out
        · rw [hnil] at hlt; simp at hlt
        obtain ⟨x0, x1, x2, p0, p1, p2, hx⟩ := hca k hlt
        have hla := World.block_lt_of_cell? w _ p0
        have ea : ∀ o, wr.cell? ⟨ba, o, none⟩ = w.cell? ⟨ba, o, none⟩ := fun o => hbw.cell (p := ⟨ba, o, none⟩) hla
        rw [← ea, Nat.mul_comm 3 k] at p0 p1 p2
        have hbd : Below wr.heap.size wr wr.drew := ⟨rfl, rfl, rfl, Nat.le_refl _, fun _ _ => rfl⟩
        have HC := Lib.hid (HIH.out ks[k] _ wr.drew ok ((hx.below hbw).below hbd))
        have b2 := cell_of_row wr w.heap.size 2 _ _ _ q1
        have d2 := cell_of_row wr (w.heap.size + 1 + 1) 2 _ _ _ q3
        have HQ1 := Lib.hid q1
        have HQ2 := Lib.hid q2
        have HQ3 := Lib.hid q3
        have HRW := Lib.hid (hrw.below hbd)
        have HNDS := Lib.hid (hnds.keep (fun _ h _ => h) (fun b _ hlt => hbd.block b hlt))
        have HBW : Hid (Below w.heap.size w wr.drew) := ⟨hbw.os, hbw.tape, hbw.output, hbw.size, hbw.block⟩
        have HG := Lib.hid hg
        have hki : (k : Int) < ks.length := by omega
        clear ea hx hca hbd q1 q2 q3 hrw hnds hg hbw HR
        go_upto_region 5 with fail
        have HK1 : Hid (k = (ks.take k).length ∧ (k + 1) * 48 ≤ 140737488355328) := ⟨by rw [List.length_take]; omega, by have := HDD.out.2; omega⟩
        have HBS : Hid (w.heap.size + 3 ≤ wr.drew.heap.size) := lt_of_block HQ3.out
        go_region_law (first
          | (go_simp; go_at_call 18; go_must ((refine (HC.out).mono ?_); (rintro e w2 ⟨ya, yc, rfl, hny, hby⟩); (have hq3 := (hby.block _ (lt_of_block HQ3.out)).trans HQ3.out); (have d2' := cell_of_row w2 (w.heap.size + 1 + 1) 2 _ _ _ hq3); (have hsz2 : w.heap.size + 1 + 1 < w2.heap.size := lt_of_block hq3); (obtain ⟨a3, c3, w3, g3, xs3, hrun, hrw3, hnds3, hg3, hb3⟩ := nds_step HRW.out HNDS.out HK1.out.1 HG.out HBS.out hny hby HK1.out.2); (have hq33 := (hb3.block _ (by omega)).trans hq3); (have e3 := cell_of_row w3 (w.heap.size + 1 + 1) 2 _ _ _ hq33); (have f3 := frozen_of_row w3 (w.heap.size + 1 + 1) 2 _ _ hq33); (have HX3 := Lib.hid (And.intro hrw3 (And.intro hnds3 (And.intro hg3 (And.intro hb3 (And.intro hby hq33)))))); clear hny hby hrw3 hnds3 hg3 hb3 hq3 hq33))
          | (go_must (refine step_append_run rfl _ _ 22 22 rfl _ _ (by rfl) (by rfl) hrun ?_)))
        all_goals
          have HT : Hid (TwinR w h t D (some ⟨ba, oa, none⟩) c ks (k + 1) (w3.setCell ⟨w.heap.size + 1 + 1, 2, none⟩ (.slice a3 (k + 1) c3))) := by
            obtain ⟨z1, z2, z3, z4, z5, z6⟩ := HX3.out
            have zz1 := (z4.block _ (by omega)).trans ((z5.block _ (lt_of_block HQ1.out)).trans HQ1.out)
            have zz2 := (z4.block _ (by omega)).trans ((z5.block _ (lt_of_block HQ2.out)).trans HQ2.out)
            have hbs := HBS.out
            refine ⟨a3, c3, g3, xs3, ?_, ?_, ?_, z1.kept (heap_setCell_other _ _ _ _ (by simp; omega)), ?_, z3, ?_⟩
            · rw [heap_setCell_other _ _ _ _ (by simp; omega)]; exact zz1
            · rw [heap_setCell_other _ _ _ _ (by simp)]; exact zz2
            · rw [heap_setCell_same _ _ _ _ _ _ z6]; rfl
            · rw [List.take_succ_eq_append_getElem hlt]
              exact z2.keep (fun _ h _ => h) (fun b hb _ => heap_setCell_other _ _ _ _ (by simp; omega))
            · exact ((HBW.out.trans (z5.mono HBW.out.size)).trans (z4.mono (by omega))).setCell (by simp; omega) _
          clear hrun e3 f3 d2' HX3
          generalize w3.setCell ⟨w.heap.size + 1 + 1, 2, none⟩ (.slice a3 (k + 1) c3) = u at *
          go_wp2_with fail
          go_roundw
          case rel => exact ⟨k + 1, by omega, by go_num, HT⟩
          case measure => simp [intOf]; omega
      · obtain rfl : k = ks.length := by omega
        obtain ⟨a2, c2, g, xs, q1, q2, q3, hrw, hnds, hg, hbw⟩ := HR.out
        rw [List.take_length] at hnds
        obtain ⟨c0, c1, c2', f0, f1, f2⟩ := box_of q2
        obtain ⟨d0, d1, d2, _, _, _⟩ := box_of q3
        obtain ⟨a4, c4, e4, hk4⟩ := kids_of hrw (ok := fun b => w.heap.size + 3 ≤ b) hg (hnds.keep (fun b hb _ => hb.1) (fun _ _ _ => rfl)) rfl
        cases e4
        have HK4 := Lib.hid hk4
        have HBW := Lib.hid hbw
        have HQ2 := Lib.hid q2
        clear q1 q2 q3 hrw hnds hbw hk4 HR
        go_wp2_with fail
        refine bodyPost_ret (v := .agg #[.int .i64 t, .string (Mt.str D), .slice a2 ks.length c2]) (by simp [results, Try.results18, go_sem, c0, c1, c2']) rfl ⟨a2, c2, rfl, ?_, ?_⟩
        · refine ⟨a2, c2, rfl, HDD.out.1, HDD.out.2, ?_⟩
          have hne : ∀ b, w.heap.size + 3 ≤ b → b ≠ w.heap.size + 1 := fun b hb => by omega
          refine HK4.out.imp (fun b hb _ => by omega) (fun v n hr => IsNd.keep (fun b hb _ => by omega) (fun b hb _ => ?_) (Nat.le_refl _) hr) (fun b hb _ => ?_)
          all_goals
            rw [heap_setCell_other _ _ _ _ (hne b hb), heap_setCell_other _ _ _ _ (hne b hb), heap_setCell_other _ _ _ _ (hne b hb)]
        · exact box_below HBW.out (by omega) _ _ _
end Go.Proofs.Ytfnggifadhploaa
