/-
  The names of which just that is wanted, rising.
-/
import Derived.Test.YthkhicpkkmhfbaaScM
namespace Go.Proofs.Ythkhicpkkmhfbaa
open Go.RowKit Go.Shelf Go.Sort

theorem ranges_keep13 {w u : World} {b r n : Nat} {D : DataW Unit} {left : Lit → Bool} {cnt : Nat} (h : w.ranges Try.prog 9 intE b r n D left cnt) (h1 : u.heap[b]? = w.heap[b]?) (h2 : u.heap[r]? = w.heap[r]?) : u.ranges Try.prog 9 intE b r n D left cnt := by
  obtain ⟨es, clock, since, seen, c0, hb, F, hs, hD, hr, rest⟩ := h
  exact ⟨es, clock, since, seen, c0, h1.trans hb, F, hs, hD, h2.trans hr, rest⟩
/-- The names met so far. -/
def Coll (M Y : List (List UInt8)) (k : Int) (left : Lit → Bool) (ss : List (List UInt8)) : Prop := ss.Nodup ∧ ∀ x, x ∈ ss ↔ (Mt.val M Y x = k ∧ left (.string x) = false)
section
variable {M Y : List (List UInt8)} {k : Int} {left : Lit → Bool} {ss : List (List UInt8)}
theorem Coll.start {D : DataW Unit} (hW : Wm D M Y) (hk : k ≠ 0) : Coll M Y k (Maps.has D) [] := ⟨List.nodup_nil, fun x => by
  constructor
  · intro h; cases h
  · rintro ⟨h1, h2⟩
    rw [(hW x).1, decide_eq_false_iff_not] at h2
    exact absurd (by rw [h1]; exact hk) h2⟩
theorem Coll.take (h : Coll M Y k left ss) {x : List UInt8} (hlk : left (.string x) = true) (hv : Mt.val M Y x = k) : Coll M Y k (fun z => left z && !z.sameKey (.string x)) (ss ++ [x]) := by
  have hnew : x ∉ ss := fun hx => by have := ((h.2 x).1 hx).2; rw [hlk] at this; cases this
  refine ⟨List.nodup_append.2 ⟨h.1, by simp, fun a ha b hb => by simp at hb; subst hb; exact fun e => hnew (e ▸ ha)⟩, fun y => ?_⟩
  by_cases hy : y = x
  · subst hy; simp [hv, Lit.sameKey]
  · simp [h.2 y, hy, Lit.sameKey]
theorem Coll.skip (h : Coll M Y k left ss) {x : List UInt8} (hv : Mt.val M Y x ≠ k) : Coll M Y k (fun z => left z && !z.sameKey (.string x)) ss := by
  refine ⟨h.1, fun y => ?_⟩
  by_cases hy : y = x
  · subst hy; simp [h.2 y, hv]
  · simp [h.2 y, hy, Lit.sameKey]
theorem Coll.perm (h : Coll M Y k left ss) (hk : k ≠ 0) (hl : ∀ kl, left kl = false) : ss.Perm ((Mt.dd (M ++ Y)).filter fun f => decide (Mt.val M Y f = k)) := by
  refine (List.perm_ext_iff_of_nodup h.1 (List.Pairwise.filter _ (Mt.nodup_dd (M ++ Y)))).2 fun x => ?_
  rw [h.2 x, hl, List.mem_filter, Mt.mem_dd, decide_eq_true_eq]
  constructor
  · rintro ⟨h1, _⟩
    refine ⟨?_, h1⟩
    unfold Mt.val at h1
    rw [List.mem_append]
    by_cases hm : x ∈ M
    · exact .inl hm
    · rw [if_neg hm] at h1
      by_cases hy : x ∈ Y
      · exact .inr hy
      · rw [if_neg hy] at h1; exact absurd h1.symm hk
  · rintro ⟨_, h1⟩; exact ⟨h1, rfl⟩
theorem Coll.sort (h : Coll M Y k left ss) (hk : k ≠ 0) (hl : ∀ kl, left kl = false) : ss.mergeSort Mt.leB = Mt.those M Y k := mergeSort_of_perm (h.perm hk hl)
end
theorem below_grow (w : World) (os : Array Obj) : Below w.heap.size w (grow w os) := by
  refine ⟨rfl, rfl, rfl, by simp [grow], fun k hk => ?_⟩
  show (w.heap ++ os)[k]? = _
  rw [Array.getElem?_append_left hk]
theorem sort13_any {base : Nat} {w : World} {v : Value} {ls : List (List UInt8)} (h : IsOwn 9 1 base w v ls.length (nms ls)) (hbase : base ≤ w.heap.size) (hn : ls.length < 4611686018427387904) :
    Calls Try.prog 60 #[v] w fun e w' => e = .returned (.tuple #[]) ∧ IsNms w' v (ls.mergeSort Mt.leB) ∧ Below base w w' := by
  have hlm : (ls.mergeSort Mt.leB).length = ls.length := List.length_mergeSort _
  obtain ⟨g, hg, hl, h⟩ := h
  rcases h with ⟨h0, rfl⟩ | ⟨off, cap, cur, rfl, h2, h3, h4, h5⟩
  · have : ls = [] := List.eq_nil_of_length_eq_zero h0
    subst this
    refine (AnyM.slices_Sort_string_none Try.sortA none 0 w).mono fun e w' ⟨he, hw⟩ => ⟨he, ?_, hw ▸ Below.refl _ _⟩
    exact ⟨none, 0, by simp, by simp, Lib.hid fun j hj => absurd hj (by simp)⟩
  · have hlt := lt_of_block h2
    have hH : Holds encStr w g off ls.toArray := by
      intro j hj
      have hj2 : j < ls.length := by simpa using hj
      refine ⟨?_, by simp [World.frozen?, h2]⟩
      rw [cell_of_row w g _ cur 9 (0, 0) h2, h5 j (by simpa [nms] using hj2)]
      simp [nms, getElem!_pos, hj2]; rfl
    refine (AnyM.slices_Sort_string Try.sortA g off cap ls w hH hlt hn).mono fun e w' ⟨he, n, os, hw⟩ => ⟨he, ?_, ?_⟩
    · have hsz : (putRow encStr (Sort.ahead w n) g off (ls.mergeSort fun x y => decide (x ≤ y)).toArray).heap.size = w.heap.size := by simp [putRow, mapBlock, Sort.ahead]
      refine ⟨_, cap, by rw [hlm], by rw [hlm]; exact h3, Lib.hid fun j hj => ⟨g, off, rfl, by rw [hw]; simp [grow]; omega, ?_⟩⟩
      have hb := below_grow (putRow encStr (Sort.ahead w n) g off (ls.mergeSort fun x y => decide (x ≤ y)).toArray) os
      rw [hw, hb.cell (p := ⟨g, off + j, none⟩) (by rw [hsz]; exact hlt)]
      have hHa : Holds encStr (Sort.ahead w n) g off ls.toArray := hH
      have := cell?_putRow encStr (Sort.ahead w n) g off ls.toArray (ls.mergeSort fun x y => decide (x ≤ y)).toArray hHa (by simp) j (by simpa using hj)
      rw [this]
      have e : (ls.mergeSort fun x y => decide (x ≤ y)) = ls.mergeSort Mt.leB := rfl
      rw [e, getElem!_pos _ _ (by simpa using hj)]
      simp; rfl
    · rw [hw]
      have hb1 : Below base w (putRow encStr (Sort.ahead w n) g off (ls.mergeSort fun x y => decide (x ≤ y)).toArray) := by
        refine ⟨rfl, rfl, rfl, by simp [putRow, mapBlock, Sort.ahead], fun k hk => ?_⟩
        simp only [putRow, mapBlock, Sort.ahead, Array.getElem?_modify]
        rw [if_neg (by omega)]
      exact hb1.trans ((below_grow _ os).mono (by simp [putRow, mapBlock, Sort.ahead]; omega))
set_option maxRecDepth 100000 in
set_option maxHeartbeats 1000000 in
theorem those_any (k : Int) (hk : k ≠ 0) {w : World} {b n : Nat} {D : DataW Unit} {M Y T : List (List UInt8)} (hown : w.ownsMap Try.prog 9 intE b n D) (hW : Wm D M Y) (hT : ∀ f, Mt.val M Y f ≠ 0 → f ∈ T) (hTl : T.length ≤ 4398046511104) :
    Calls Try.prog 40 #[.map (some b), .int .i64 k] w fun e w' => ∃ v, e = .returned v ∧ IsNms w' v (Mt.those M Y k) ∧ Below w.heap.size w w' := by
  have hbw := ownsMap_lt13 hown
  obtain ⟨i0, hi, hz0, hz1, hz2⟩ := info_parts Try.infoStr13
  have HI := Lib.hid (And.intro hi (And.intro hz0 (And.intro hz1 hz2)))
  have HS0 := Lib.hid (Coll.start hW hk)
  have HW := Lib.hid hW
  have HT := Lib.hid hT
  have HK := Lib.hid hk
  clear hi hz0 hz1 hz2 hW hT hk
  go_enter Try.func40, Try.ntmps40
  go_wp2_with (first | (at_range; refine wpList_range_own _ rfl _ 67 rfl 9 3 keyLawS Try.underlying67 intE b n D rfl hown ?_; intro w0 hrg0 hg0 hs0; go_frame) | fail)
  have hB0 : Below w.heap.size w w0 := ⟨hg0.os, hg0.tape, hg0.output, hg0.size, fun j hj => hg0.block j hj (by simp)⟩
  have HB0 := Lib.hid hB0
  have HR0 := Lib.hid hrg0
  clear hB0 hg0 hrg0
  go_loopw [5] (fun ov wr => ∃ (left : Lit → Bool) (cnt : Nat) (ss : List (List UInt8)) (a2 : Option Addr) (c2 : Nat), ov = .slice a2 ss.length c2 ∧ Hid (Coll M Y k left ss) ∧ Hid (wr.ranges Try.prog 9 intE b w.heap.size n D left cnt) ∧ Hid (IsOwn 9 1 (w.heap.size + 1) wr (.slice a2 ss.length c2) ss.length (nms ss)) ∧ Hid (Below w.heap.size w wr)) (fun _ wr => wr.rangeLeft b w.heap.size)
  case atStart => exact ⟨_, _, [], none, 0, rfl, HS0, HR0, Lib.hid (IsOwn.nil _ _ _ _), HB0⟩
  case round =>
    obtain ⟨left, cnt, ss, a2, c2, rfl, HC, HR, HO, HB⟩ := hrel
    have hsl : ss.length ≤ 4398046511104 := Nat.le_trans (Mt.length_le_of_sub ss T HC.out.1 (fun x hx => HT.out x (by rw [((HC.out.2 x).1 hx).1]; exact HK.out))) hTl
    have hwr : w.heap.size + 1 ≤ wr.heap.size := HR.out.lt
    have hrg := HR.out
    go_wp2_with (first | (at_next; refine wpList_next_ranges _ rfl _ rfl 9 keyLawS intE encStr (Value.int .i64) (fun key kl h => by obtain ⟨x, hx, _⟩ := Maps.keyOf_str Try.underlying9 h; exact ⟨x, hx⟩) (fun v y hv => by obtain ⟨c, rfl, _⟩ := plainElem_int_inv Try.underlying3 hv; exact ⟨c, rfl⟩) b w.heap.size n D left cnt rfl hrg ?_ ?_) | fail)
    · intro _ hl0
      have HS := Lib.hid (HC.out.sort HK.out hl0)
      have HSO := Lib.hid (sort13_any HO.out hwr (by omega))
      rw [HS.out] at HSO
      clear hl0 hrg HC HR
      go_wp2_with fail
      refine (HSO.out).mono ?_
      rintro e w2 ⟨rfl, hnm, hb⟩
      have HNM := Lib.hid hnm
      have HB2 := Lib.hid (HB.out.trans (hb.mono (Nat.le_succ _)))
      clear hb hnm
      go_wp2_with fail
      go_ret
      exact ⟨_, rfl, HNM.out, HB2.out⟩
    · intro x c kl yd yp w1 cnt1 hkey hlk hv hat hrg1 hlt hg1 hs1 hen
      obtain ⟨x', ex, rfl, hxl⟩ := Maps.keyOf_str Try.underlying9 hkey
      obtain rfl := encStr_inj ex
      have he : encStr x = .string (Mt.str x) := rfl
      rw [he] at hen ⊢
      obtain ⟨c', ec, hyp, -⟩ := plainElem_int_inv Try.underlying3 hv
      cases ec
      cases hyp
      have hcv : c = Mt.val M Y x := by
        have h1 := hat (.lit (.int .i64 0))
        rw [Wm.at HW.out] at h1
        injection h1 with h1
        injection h1 with _ h1
        exact h1.symm
      have HB1 := Lib.hid (HB.out.trans (show Below w.heap.size wr w1 from ⟨hg1.os, hg1.tape, hg1.output, hg1.size, fun j hj => hg1.block j (by omega) (fun e => by cases e; omega)⟩))
      have HO1 : Hid (IsOwn 9 1 (w.heap.size + 1) w1 (.slice a2 ss.length c2) ss.length (nms ss)) := Lib.hid (by
        obtain ⟨g, hg, hrw⟩ := HO.out
        refine ⟨g, hg, hrw.kept ?_⟩
        rcases Nat.lt_or_ge g wr.heap.size with h | h
        · exact hg1.block g h (fun e => by cases e; omega)
        · rw [Array.getElem?_eq_none (by rw [hs1]; exact h), Array.getElem?_eq_none h])
      have HR1 := Lib.hid hrg1
      have hcs : HC.out.1 = HC.out.1 := rfl
      have hll := HC.out
      by_cases hck : c = k
      · have HC2 := Lib.hid (hll.take hlk (by rw [← hcv]; exact hck))
        subst hck
        have hs2 : (ss ++ [x]).length ≤ 4398046511104 := Nat.le_trans (Mt.length_le_of_sub _ T HC2.out.1 (fun y hy => HT.out y (by rw [((HC2.out.2 y).1 hy).1]; exact HK.out))) hTl
        rw [List.length_append, List.length_singleton] at hs2
        have hsz1 : w.heap.size + 1 ≤ w1.heap.size := by omega
        obtain ⟨a3, c3, w5, hrun, hown5, hb5⟩ := own_push (T := 29) (tx := 29) Try.underlying29 Try.underlying29 HI.out.1 HI.out.2.1 HI.out.2.2.1 HI.out.2.2.2 rfl HO1.out hsz1 (nms_one _) #[.string (Mt.str x)] rfl (by simp [Value.oneCell']) (by omega) (by omega)
        have HO5 : Hid (IsOwn 9 1 (w.heap.size + 1) w5 (.slice a3 (ss.length + 1) c3) (ss ++ [x]).length (nms (ss ++ [x]))) := Lib.hid (by
          rw [List.length_append]
          have e : nms (ss ++ [x]) = nms ss ++ (#[.string (Mt.str x)] : Array Value).toList := by simp [nms]
          rw [e]; exact hown5)
        have HR5 := Lib.hid (ranges_keep13 HR1.out (hb5.block b (by omega)) (hb5.block w.heap.size (by omega)))
        have HB5 := Lib.hid (HB1.out.trans (hb5.mono (Nat.le_succ _)))
        have HLT : Hid (w5.rangeLeft b w.heap.size < wr.rangeLeft b w.heap.size) := Lib.hid (by rw [HR5.out.left_eq, HR.out.left_eq]; exact hlt)
        clear hkey hlk hv hat hrg1 hlt hg1 hs1 hcs hll hcv hown5 hb5 ex hrg
        generalize Mt.str x = X at *
        go_wp2_with (refine wpList_append_run rfl _ _ 29 29 rfl _ _ rfl rfl hrun ?_)
        go_roundw
        case rel => exact ⟨_, _, ss ++ [x], a3, c3, by rw [List.length_append]; rfl, HC2, HR5, by rw [List.length_append] at HO5 ⊢; exact HO5, HB5⟩
        case measure => exact HLT.out
      · have HC2 := Lib.hid (hll.skip (x := x) (by rw [← hcv]; exact hck))
        have HLT : Hid (w1.rangeLeft b w.heap.size < wr.rangeLeft b w.heap.size) := Lib.hid (by rw [HR1.out.left_eq, HR.out.left_eq]; exact hlt)
        have g1 : (c == k) = false := beq_eq_false_iff_ne.2 hck
        clear hkey hlk hv hat hrg1 hlt hg1 hs1 hcs hll hcv ex hrg hck
        generalize Mt.str x = X at *
        go_wp2_with fail
        go_roundw
        case rel => exact ⟨_, _, ss, a2, c2, rfl, HC2, HR1, HO1, HB1⟩
        case measure => exact HLT.out
end Go.Proofs.Ythkhicpkkmhfbaa
