/-
  The document's Drop, Take and Keep.
-/
import Derived.Test.YtmdhioifdnaajaaPgO
import Derived.BigRegion
import Derived.Deep.Cut
set_option linter.unusedVariables false
set_option linter.unusedSimpArgs false
namespace Go.Proofs.Ytmdhioifdnaajaa
open Go.RowKit Go.Shelf

theorem oper_append26 {P : Program} {o : Oper} {a : Act} {w : World} {K : Act → World → Prop} {Q : Exit → Act → World → Prop}
    (s x : Operand) (t t' : TypeId) (hop : o.op = Op.call { callee := Callee.builtin Builtin.append, args := #[s, x], argTypes := #[t, t'] })
    (v u : Value) (hs : a.eval s = v) (hx : a.eval x = u) (w0 : World) (hw : w = w0) {v' : Value} {w' : World} (hr : ∀ ty, (Builtin.append_ #[t, t'] ty #[v, u]).run P w0 = .ok v' w')
    (hK : K (a.put o.dst v') w') : Oper.wp P o a w K Q := by
  subst hw
  unfold Oper.wp
  simp [execOp, hop, resolve, invoke, builtin, hs, hx, hr, Result.andThen]
  exact hK
theorem meas_stepB {N j : Nat} (h : j < N) : N - (intOf (.int .i64 ((j + 1 : Nat) : Int))).toNat < N - (intOf (.int .i64 (j : Int))).toNat := by
  simp [intOf]; omega
set_option maxRecDepth 100000 in
set_option maxHeartbeats 1000000 in
theorem rdrop26_any {w : World} {R : Nat} {S : Nat → Prop} {last : Nat} {L : Mt.Bk} (c : Int) (hL : L.length ≤ 100000) (h : IsRB w R S last L) :
    Calls Try.prog 9 #[.pointer (some ⟨R, 0, none⟩), .int .i64 c] w fun e w' => e = .returned (.tuple #[]) ∧ ∃ S', IsRB w' R S' last (Mt.dropB c L) ∧ OnlyP S w w' ∧ ∀ k, S' k → S k ∨ w.heap.size ≤ k := by
  obtain ⟨a, cp, g, h1, h2, h3, h4⟩ := h.ex
  have hRl := h.lt R h3
  have hgl := h.lt g h4
  obtain ⟨⟨x0, x1⟩, xf⟩ := box2G h1
  have HRW := Lib.hid h2
  have HBK := Lib.hid h
  have HBX : Hid (∀ u : World, Below w.heap.size w u → u.heap[R]? = some (.cells #[.int .i64 (last : Int), .slice a L.length cp] 29 (0, 0)) ∧ u.heap[g]? = w.heap[g]?) := Lib.hid (fun u hu => ⟨(hu.block R hRl).trans h1, hu.block g hgl⟩)
  have HLE := Lib.hid hL
  obtain ⟨n, hn⟩ : ∃ n, L.length = n := ⟨_, rfl⟩
  have HN := Lib.hid hn
  rw [hn] at x1
  clear h h1 h2 h3 h4 hgl hL hn
  have HR0 := Lib.hid (Below.refl w.heap.size w)
  go_enter Try.func9, Try.ntmps9
  go_wp2_with fail
  go_loopw [4, 12] (fun sv kv wr => ∃ (k : Nat) (a2 : Option Addr) (m c2 : Nat), k ≤ n ∧ kv = .int .i64 (k : Int) ∧ sv = .slice a2 m c2 ∧ Hid (IsOwn 55 5 w.heap.size wr (.slice a2 m c2) (Mt.dropB c (L.take k)).length (rplsC (Mt.dropB c (L.take k)))) ∧ Hid (Below w.heap.size w wr)) (fun _ kv _ => n - (intOf kv).toNat)
  case atStart => exact ⟨0, none, 0, 0, Nat.zero_le _, rfl, rfl, Lib.hid (IsOwn.nil _ _ _ _), HR0⟩
  case round =>
    obtain ⟨k, a2, m, c2, hk, rfl, rfl, HO, HB⟩ := hrel
    obtain ⟨rfl⟩ : m = (Mt.dropB c (L.take k)).length := by
      obtain ⟨_, _, e⟩ := HO.out.form
      injection e
    clear x0 x1 xf
    by_cases hlt : k < n
    · have hkl : k < L.length := by rw [HN.out]; exact hlt
      obtain ⟨hb1, hb2⟩ := HBX.out wr HB.out
      obtain ⟨off, rfl, hcell⟩ := HRW.out.rplace hkl
      obtain ⟨y0, y1, y2, y3, y4⟩ := hcell wr hb2
      have HFS := Lib.hid (Mt.filter_stepB (fun q : Int × Mt.Pl => !decide (q.1 = c)) hkl)
      have hle : (Mt.dropB c (L.take k)).length ≤ 200000 := by have h1 := List.length_filter_le (fun q : Int × Mt.Pl => !decide (q.1 = c)) (L.take k); rw [List.length_take] at h1; have := HLE.out; unfold Mt.dropB; omega
      obtain ⟨wx, hwx⟩ : ∃ u, wr.alloc (.cells #[.int .i64 (L[k].2.num : Int), .int .i64 L[k].1, .string L[k].2.key, .int .i64 L[k].2.ver, .int .i64 L[k].2.at'] 55) = u := ⟨_, rfl⟩
      have hba : Below wr.heap.size wr wx := by rw [← hwx]; exact (Below.refl _ wr).alloc (Nat.le_refl _) _
      have hka : wx.heap[wr.heap.size]? = some (.cells #[.int .i64 (L[k].2.num : Int), .int .i64 L[k].1, .string L[k].2.key, .int .i64 L[k].2.ver, .int .i64 L[k].2.at'] 55) := by rw [← hwx]; exact heap_alloc_new wr _
      have HPU := Lib.hid (rpl_push HO.out hba HB.out.size L[k] hle)
      obtain ⟨⟨pn, pk, pv, pa⟩, hq⟩ : ∃ p, L[k].2 = p := ⟨_, rfl⟩
      obtain ⟨pc, hc⟩ : ∃ p, L[k].1 = p := ⟨_, rfl⟩
      have hqq : L[k] = (pc, ⟨pn, pk, pv, pa⟩) := by rw [← hq, ← hc]
      rw [hqq] at HFS HPU hka hwx y0 y1 y2 y3 y4
      simp only at HFS HPU hka hwx y0 y1 y2 y3 y4
      have z0 := cell_of_row wx wr.heap.size 0 _ _ _ hka
      have z1 := cell_of_row wx wr.heap.size 1 _ _ _ hka
      have z2 := cell_of_row wx wr.heap.size 2 _ _ _ hka
      have z3 := cell_of_row wx wr.heap.size 3 _ _ _ hka
      have z4 := cell_of_row wx wr.heap.size 4 _ _ _ hka
      simp only [List.getElem?_toArray, List.getElem?_cons_zero, List.getElem?_cons_succ] at z0 z1 z2 z3 z4
      have HBW := Lib.hid (HB.out.trans (hba.mono HB.out.size))
      have HOW := Lib.hid (HO.out.below hba)
      unfold Mt.dropB at HO HPU HOW ⊢
      obtain ⟨X, hX⟩ : ∃ X, (L.take k).filter (fun q : Int × Mt.Pl => !decide (q.1 = c)) = X := ⟨_, rfl⟩
      rw [hX] at HO HFS HPU HOW
      rw [hX]
      obtain ⟨m, hm⟩ : ∃ m, X.length = m := ⟨_, rfl⟩
      have HXM := Lib.hid hm
      rw [hm] at HPU ⊢
      have d1 : decide ((k : Int) < (n : Int)) = true := decide_eq_true (by omega)
      have d2 : decide (k < n) = true := decide_eq_true hlt
      have k0 : (0 : Int) ≤ (k : Int) := by omega
      have k1 : (k : Int) < (n : Int) := by omega
      have wk : wrap64 ((k : Int) + 1) = ((k + 1 : Nat) : Int) := by unfold wrap64; have := HLE.out; have := HN.out; omega
      clear hb1 hb2 hcell hba hka hle hq hc hqq hX hm hkl
      by_cases hcc : pc = c
      · subst hcc
        go_wp2_with fail
        go_roundw
        case rel =>
          have h1 := HFS.out
          rw [if_neg (by simp)] at h1
          refine ⟨k + 1, a2, m, c2, by omega, by first | rfl | go_num, rfl, Lib.hid ?_, HBW⟩
          rw [h1]; have := HOW.out; rwa [HXM.out] at this ⊢
        case measure => first | exact meas_stepB hlt | (rw [wk]; exact meas_stepB hlt)
      · have hne : (pc != c) = true := by simp [hcc]
        obtain ⟨a', c', w', hrun, hown, hb'⟩ := HPU.out
        have HOW' := Lib.hid hown
        have HB' := Lib.hid (HBW.out.trans hb')
        clear hown hb'
        go_wp2_with (refine wpList_append_run rfl (.tmp 20) (.tmp 22) 27 27 rfl (.slice a2 m c2) (.slice (some ⟨wx.heap.size, 0, none⟩) 1 1) rfl rfl hrun ?_; clear hrun)
        go_roundw
        case rel =>
          have h1 := HFS.out
          rw [if_pos (by simp [hcc])] at h1
          refine ⟨k + 1, a', m + 1, c', by omega, by first | rfl | go_num, rfl, Lib.hid ?_, HB'⟩
          rw [h1]
          have := HOW'.out
          rw [List.length_append, HXM.out] at this ⊢
          exact this
        case measure => first | exact meas_stepB hlt | (rw [wk]; exact meas_stepB hlt)
    · obtain rfl : k = n := by omega
      have d1 : decide ((k : Int) < (k : Int)) = false := decide_eq_false (by omega)
      have d2 : decide (k < k) = false := decide_eq_false (by omega)
      have htk : L.take k = L := List.take_of_length_le (by rw [HN.out]; exact Nat.le_refl _)
      rw [htk] at HO ⊢
      obtain ⟨hb1, hb2⟩ := HBX.out wr HB.out
      obtain ⟨⟨x0, x1⟩, xf⟩ := box2G hb1
      rw [HN.out] at x1
      have xf1 := frozen_of_row wr R 1 _ _ hb1
      have HFIN := Lib.hid (HBK.out.store (belowToP (S := S) HB.out) hb1 HO.out)
      clear hb1 hb2
      go_wp2_with fail
      try go_frame
      refine bodyPost_end (results_none rfl _ _ _) rfl ?_
      exact ⟨rfl, HFIN.out⟩
end Go.Proofs.Ytmdhioifdnaajaa
