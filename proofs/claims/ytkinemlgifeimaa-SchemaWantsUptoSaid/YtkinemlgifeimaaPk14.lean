/-
  Some texts of one proof, one behind the other.
-/
import Derived.Test.YtkinemlgifeimaaPk13
set_option linter.unusedVariables false
set_option linter.unusedSimpArgs false

/-
  What must be there of classes, and what only may.
-/
namespace Go.Proofs.Ytkinemlgifeimaa
open Go.RowKit

namespace Mt
def mustI (s : Sc) (l : List Nat) : List (List UInt8) := l.flatMap fun (i : Nat) => (clI s (i : Int)).must.map foldL
def mayI (s : Sc) (l : List Nat) : List (List UInt8) := l.flatMap fun (i : Nat) => (clI s (i : Int)).may.map foldL
def idxs (s : Sc) (cs : List (List UInt8)) : List Nat := cs.flatMap (chain s)
def wantsS (s : Sc) (cs : List (List UInt8)) : List (List UInt8) × List (List UInt8) := (those (mustI s (idxs s cs)) (mayI s (idxs s cs)) 2, those (mustI s (idxs s cs)) (mayI s (idxs s cs)) 1)
theorem mustI_app (s : Sc) (a b : List Nat) : mustI s (a ++ b) = mustI s a ++ mustI s b := by simp [mustI]
theorem mayI_app (s : Sc) (a b : List Nat) : mayI s (a ++ b) = mayI s a ++ mayI s b := by simp [mayI]
theorem idxs_app (s : Sc) (a b : List (List UInt8)) : idxs s (a ++ b) = idxs s a ++ idxs s b := by simp [idxs]
end Mt
theorem own_only {E : TypeId} {sz base b n : Nat} {w u : World} {v : Value} {xs : List Value} (h : IsOwn E sz base w v n xs) (ho : OnlyS [b] w u) (hb : b < base) : IsOwn E sz base u v n xs := by
  obtain ⟨g, hg, hl, h⟩ := h
  refine ⟨g, hg, hl, ?_⟩
  rcases h with h | ⟨off, cap, cur, h1, h2, h3⟩
  · exact .inl h
  · exact .inr ⟨off, cap, cur, h1, (ho.block g (lt_of_block h2) (by simp; omega)).trans h2, h3⟩
/-- What a class lists. -/
theorem lists_at {tv cv : Value} {s : Mt.Sc} {w : World} (h : IsSc w tv cv s) {a : Option Addr} {n cap : Nat} (hv : cv = .slice a n cap) (j : Nat) (hj : j < s.classes.length) :
    ∃ b off m y, a = some ⟨b, off, none⟩ ∧ Hid (∀ u, Below w.heap.size w u → (u.cell? ⟨b, off + j * 5 + 3, none⟩ = some m ∧ u.cell? ⟨b, off + j * 5 + 4, none⟩ = some y) ∧ IsNms u m (Mt.clI s (j : Int)).must ∧ IsNms u y (Mt.clI s (j : Int)).may) := by
  obtain ⟨a', cap', hv', hcap, hcell⟩ := h.classes
  obtain ⟨b', off', m, y, e0, hbl, h0, h1, h2, h3, h4, h5, h6⟩ := hcell.out j hj
  rw [hv'] at hv
  cases hv
  rw [Mt.clI_get hj]
  exact ⟨b', off', m, y, e0, Lib.hid fun u hu => ⟨⟨(hu.cell (p := ⟨b', _, none⟩) hbl).trans h3, (hu.cell (p := ⟨b', _, none⟩) hbl).trans h4⟩, h5.below hu, h6.below hu⟩⟩
def StW (T : List (List UInt8)) (b : Nat) (u : World) (M Y : List (List UInt8)) : Prop := ∃ n' D', u.ownsMap Try.prog 9 intE b n' D' ∧ Wm D' M Y ∧ ∀ f, Mt.val M Y f ≠ 0 → f ∈ T
theorem StW.keep {T : List (List UInt8)} {b : Nat} {w u : World} {M Y : List (List UInt8)} (h : StW T b w M Y) (hb : Below w.heap.size w u) : StW T b u M Y := by
  obtain ⟨n, D, h1, h2⟩ := h
  exact ⟨n, D, ownsMap_keep13 h1 (hb.block b (ownsMap_lt13 h1)), h2⟩
theorem want_st (k : Int) (hk : k = 1 ∨ k = 2) {w : World} {b : Nat} {M Y T l : List (List UInt8)} {v : Value} (h : StW T b w M Y) (hTl : T.length ≤ 4398046511104)
    (hv : ∀ u, OnlyS [b] w u → IsNms u v l) (hn : ∀ x ∈ l, x.length ≤ 140737488351232 ∧ Mt.foldL x ∈ T) (hl : l.length ≤ 8796093022208) :
    Calls Try.prog 39 #[.map (some b), .int .i64 k, v] w fun e w' => e = .returned (.tuple #[]) ∧ OnlyS [b] w w' ∧ StW T b w' (Mt.addM k M l) (Mt.addY k Y l) := by
  obtain ⟨n, D, h1, h2, h3⟩ := h
  exact want_any k hk h1 h2 h3 hTl hv hn hl
theorem those_st (k : Int) (hk : k ≠ 0) {w : World} {b : Nat} {M Y T : List (List UInt8)} (h : StW T b w M Y) (hTl : T.length ≤ 4398046511104) :
    Calls Try.prog 40 #[.map (some b), .int .i64 k] w fun e w' => ∃ v, e = .returned v ∧ IsNms w' v (Mt.those M Y k) ∧ Below w.heap.size w w' := by
  obtain ⟨n, D, h1, h2, h3⟩ := h
  exact those_any k hk h1 h2 h3 hTl
set_option maxRecDepth 100000 in
set_option maxHeartbeats 2000000 in
theorem wants13_any {tv cv v : Value} {s : Mt.Sc} {cs T : List (List UInt8)} {w : World} (h : IsSc w tv cv s) (hv : IsNms w v cs) (hf : FitN cs) (hT : ∀ c ∈ s.classes, ∀ x, x ∈ c.must ∨ x ∈ c.may → Mt.foldL x ∈ T) (hTl : T.length ≤ 4398046511104) :
    Calls Try.prog 21 #[.agg #[tv, cv], v] w fun e w' => ∃ a b, e = .returned (.tuple #[a, b]) ∧ IsNms w' a (Mt.wantsS s cs).1 ∧ IsNms w' b (Mt.wantsS s cs).2 ∧ Below w.heap.size w w' := by
  have HCH := Lib.hid (fun (n : List UInt8) (hn : n.length ≤ 140737488351232) (u : World) (hb : Below w.heap.size w u) => chain_any n hn (h.below hb))
  have HLT := Lib.hid (fun n => Mt.chain_lt s n)
  have HCLN := Lib.hid (fun n => Mt.chain_len s n)
  have HFN := Lib.hid hf.2
  have hclen := hf.1
  have hcl := h.clen
  have HTT := Lib.hid (fun (j : Nat) (hj : j < s.classes.length) => (show (∀ x ∈ (Mt.clI s (j : Int)).must, x.length ≤ 140737488351232 ∧ Mt.foldL x ∈ T) ∧ (∀ x ∈ (Mt.clI s (j : Int)).may, x.length ≤ 140737488351232 ∧ Mt.foldL x ∈ T) ∧ (Mt.clI s (j : Int)).must.length ≤ 8796093022208 ∧ (Mt.clI s (j : Int)).may.length ≤ 8796093022208 from by
    rw [Mt.clI_get hj]
    have hc := h.cnm _ (List.getElem_mem hj)
    exact ⟨fun x hx => ⟨hc.2.2.2.2.1 x hx, hT _ (List.getElem_mem hj) x (.inl hx)⟩, fun x hx => ⟨hc.2.2.2.2.2 x hx, hT _ (List.getElem_mem hj) x (.inr hx)⟩, hc.2.2.1, hc.2.2.2.1⟩))
  have HLS := Lib.hid (fun (a : Option Addr) (n cap : Nat) (hv : cv = .slice a n cap) (j : Nat) (hj : j < s.classes.length) => lists_at h hv j hj)
  obtain ⟨ta, tcap, hv1, -, -⟩ := h.types
  obtain ⟨ca, ccap, hv2, -, -⟩ := h.classes
  obtain ⟨na, ncap, rfl, hnc, HCS⟩ := hv
  subst hv1 hv2
  replace HLS := Lib.hid (HLS.out _ _ _ rfl)
  obtain ⟨tn, htn⟩ : ∃ tn, s.types.length = tn := ⟨_, rfl⟩
  obtain ⟨cn, hcn⟩ : ∃ cn, s.classes.length = cn := ⟨_, rfl⟩
  rw [htn, hcn] at HCH
  rw [hcn] at HLT HTT HLS hcl HCLN
  rw [htn, hcn]
  obtain ⟨m, hm⟩ : ∃ m, cs.length = m := ⟨_, rfl⟩
  have HM := Lib.hid hm
  rw [hm] at hclen hnc ⊢
  obtain ⟨w1, hw1⟩ : ∃ w1, w.alloc (.cells #[.slice ta tn tcap, .slice ca cn ccap] 25) = w1 := ⟨_, rfl⟩
  have hA1 : Below w.heap.size w w1 := by rw [← hw1]; exact (Below.refl _ w).alloc (Nat.le_refl _) _
  have hs1 : w1.heap.size = w.heap.size + 1 := by rw [← hw1]; simp
  have hx1 : w1.heap[w.heap.size]? = some (.cells #[.slice ta tn tcap, .slice ca cn ccap] 25) := by rw [← hw1]; exact heap_alloc_new w _
  have p0 : w1.cell? ⟨w.heap.size, 0, none⟩ = some (.slice ta tn tcap) := by rw [cell_of_row _ _ _ _ _ _ hx1]; rfl
  have p1 : w1.cell? ⟨w.heap.size, 1, none⟩ = some (.slice ca cn ccap) := by rw [cell_of_row _ _ _ _ _ _ hx1]; rfl
  obtain ⟨w2, hw2⟩ : ∃ w2, w1.alloc (.cells #[.slice ta tn tcap, .slice ca cn ccap] 59) = w2 := ⟨_, rfl⟩
  have hA2 : Below w1.heap.size w1 w2 := by rw [← hw2]; exact (Below.refl _ w1).alloc (Nat.le_refl _) _
  have hs2 : w2.heap.size = w.heap.size + 2 := by rw [← hw2]; simp [hs1]
  have hx2 : w2.heap[w1.heap.size]? = some (.cells #[.slice ta tn tcap, .slice ca cn ccap] 59) := by rw [← hw2]; exact heap_alloc_new w1 _
  rw [hs1] at hx2
  obtain ⟨w3, hw3⟩ : ∃ w3, w2.alloc (.map #[] 0) = w3 := ⟨_, rfl⟩
  have hA3 : Below w2.heap.size w2 w3 := by rw [← hw3]; exact (Below.refl _ w2).alloc (Nat.le_refl _) _
  have hs3 : w3.heap.size = w.heap.size + 3 := by rw [← hw3]; simp [hs2]
  have hmap : w3.ownsMap Try.prog 9 intE (w.heap.size + 2) 0 (.map []) := by
    have := World.ownsMap_made (H := Unit) w2 Try.prog 9 intE
    rw [hw3, hs2] at this; exact this
  have HA3 := Lib.hid ((hA1.trans (hA2.mono (by omega))).trans (hA3.mono (by omega)))
  have HP : Hid (∀ u, OnlyS [w.heap.size + 2] w3 u → u.cell? ⟨w.heap.size + 1, 0, none⟩ = some (.slice ta tn tcap) ∧ u.cell? ⟨w.heap.size + 1, 1, none⟩ = some (.slice ca cn ccap)) := Lib.hid (fun u hu => by
    have r1 := (hu.block (w.heap.size + 1) (by omega) (by simp)).trans ((hA3.block (w.heap.size + 1) (by omega)).trans hx2)
    exact ⟨by rw [cell_of_row _ _ _ _ _ _ r1]; rfl, by rw [cell_of_row _ _ _ _ _ _ r1]; rfl⟩)
  have HBW : Hid (∀ u, OnlyS [w.heap.size + 2] w3 u → Below w.heap.size w u) := Lib.hid (fun u hu => HA3.out.trans (hu.toBelow (by intro k hk; rw [List.mem_singleton] at hk; omega) (by omega)))
  have hmm := @run_makeMap Try.prog
  have HM0 : Hid (StW T (w.heap.size + 2) w3 (Mt.mustI s (Mt.idxs s (cs.take 0))) (Mt.mayI s (Mt.idxs s (cs.take 0)))) := Lib.hid ⟨_, _, hmap, by rw [List.take_zero]; exact Wm.none, by rw [List.take_zero]; intro f hf; exact absurd rfl hf⟩
  have HTLn := Lib.hid hTl
  clear h hf hx1 hx2 hA1 hA2 hA3 hmap htn hcn hm hT hTl
  go_enter Try.func21, Try.ntmps21
  go_wp2_with fail
  clear p0 p1 hmm
  go_loopw [17] (fun iv wr => ∃ i : Nat, i ≤ m ∧ iv = .int .i64 (i : Int) ∧ Hid (OnlyS [w.heap.size + 2] w3 wr) ∧ Hid (StW T (w.heap.size + 2) wr (Mt.mustI s (Mt.idxs s (cs.take i))) (Mt.mayI s (Mt.idxs s (cs.take i))))) (fun iv _ => m - (intOf iv).toNat)
  case atStart => exact ⟨0, Nat.zero_le _, rfl, Lib.hid (OnlyS.refl _ _), HM0⟩
  case round =>
    obtain ⟨i, hi, rfl, HO, HST⟩ := hrel
    have HB := Lib.hid (HBW.out wr HO.out)
    by_cases hlt : i < m
    · have hil : i < cs.length := by rw [HM.out]; exact hlt
      obtain ⟨b, off, e0, hbl, hc⟩ := HCS.out i hil
      have x0 := (HB.out.cell (p := ⟨b, off + i, none⟩) hbl).trans hc
      obtain ⟨nm, hnm⟩ : ∃ nm, cs[i] = nm := ⟨_, rfl⟩
      have hnl := HFN.out _ (List.getElem_mem hil)
      rw [hnm] at x0 hnl
      have HCK := Lib.hid (HCH.out nm hnl wr HB.out)
      have hll := HLT.out nm
      have hlnc := HCLN.out nm
      have HTK : Hid (Mt.idxs s (cs.take (i + 1)) = Mt.idxs s (cs.take i) ++ Mt.chain s nm) := Lib.hid (by
        rw [List.take_succ_eq_append_getElem hil, hnm, Mt.idxs_app]; simp [Mt.idxs])
      obtain ⟨p0, p1⟩ := HP.out wr HO.out
      obtain ⟨L, hL⟩ : ∃ L, Mt.chain s nm = L := ⟨_, rfl⟩
      rw [hL] at HCK hll HTK hlnc
      have HLL := Lib.hid hll
      have d1 : decide ((i : Int) < (m : Int)) = true := decide_eq_true (by omega)
      have d2 : decide (i < m) = true := decide_eq_true hlt
      have i0 : (0 : Int) ≤ (i : Int) := by omega
      subst e0
      generalize Mt.str nm = NM at *
      generalize Mt.idxs s (cs.take i) = I at *
      clear hbl hc hnm hil hnl hL hll
      go_wp2_with fail
      refine (HCK.out).mono ?_
      rintro e w4 ⟨v4, rfl, hown, hb⟩
      obtain ⟨la, lcap, rfl, -, -⟩ := IsOwn.nats hown
      have hwb : w.heap.size + 3 ≤ wr.heap.size := by have := HO.out.size; omega
      have HO4 := Lib.hid (onlyOf HO.out hb)
      have HS4 := Lib.hid (HST.out.keep hb)
      have HOW := Lib.hid hown
      obtain ⟨ln, hln⟩ : ∃ ln, L.length = ln := ⟨_, rfl⟩
      have HLN := Lib.hid hln
      have HIN : Hid (∀ u, OnlyS [w.heap.size + 2] w4 u → IsNats u (.slice la ln lcap) L) := Lib.hid (fun u hu => by rw [← hln]; exact IsOwn.nats (own_only hown hu (by omega)))
      have HTE : Hid (L.take ln = L) := Lib.hid (by rw [← hln]; exact List.take_length)
      have HS40 : Hid (StW T (w.heap.size + 2) w4 (Mt.mustI s (I ++ L.take 0)) (Mt.mayI s (I ++ L.take 0))) := Lib.hid (by rw [List.take_zero, List.append_nil]; exact HS4.out)
      rw [hln] at hlnc ⊢
      clear hown hb p0 p1 x0 HST hln
      go_wp2_with fail
      go_loopw [25] (fun iv wy => ∃ j : Nat, j ≤ ln ∧ iv = .int .i64 (j : Int) ∧ Hid (OnlyS [w.heap.size + 2] w4 wy) ∧ Hid (StW T (w.heap.size + 2) wy (Mt.mustI s (I ++ L.take j)) (Mt.mayI s (I ++ L.take j)))) (fun iv _ => ln - (intOf iv).toNat)
      case atStart => exact ⟨0, Nat.zero_le _, rfl, Lib.hid (OnlyS.refl _ _), HS40⟩
      case round =>
        obtain ⟨j, hj, rfl, HOY, HSY⟩ := hrel
        have HO3 := Lib.hid (HO4.out.trans HOY.out)
        by_cases hltj : j < ln
        · have hjl : j < L.length := by rw [HLN.out]; exact hltj
          obtain ⟨a5, c5, e5, -, hcell⟩ := HIN.out wr HOY.out
          obtain ⟨b5, off5, e6, hb5, hc5⟩ := hcell.out j hjl
          have ea : a5 = la := by injection e5 with h1; exact h1.symm
          subst ea
          subst e6
          obtain ⟨x, hx⟩ : ∃ x, L[j] = x := ⟨_, rfl⟩
          have hxc := HLL.out _ (List.getElem_mem hjl)
          rw [hx] at hc5 hxc
          have HMT : Hid (Mt.mustI s (I ++ L.take (j + 1)) = Mt.mustI s (I ++ L.take j) ++ (Mt.clI s (x : Int)).must.map Mt.foldL) := Lib.hid (by
            rw [List.take_succ_eq_append_getElem hjl, hx, ← List.append_assoc, Mt.mustI_app]; simp [Mt.mustI])
          have HYT : Hid (Mt.mayI s (I ++ L.take (j + 1)) = Mt.mayI s (I ++ L.take j) ++ (Mt.clI s (x : Int)).may.map Mt.foldL) := Lib.hid (by
            rw [List.take_succ_eq_append_getElem hjl, hx, ← List.append_assoc, Mt.mayI_app]; simp [Mt.mayI])
          obtain ⟨bc, offc, mv, yv, ec, HLC⟩ := HLS.out x hxc
          have htt := HTT.out x hxc
          subst ec
          have HW1 := Lib.hid (want_st 2 (.inr rfl) HSY.out HTLn.out (fun u hu => (HLC.out u (HBW.out u (HO3.out.trans hu))).2.1) htt.1 htt.2.2.1)
          have HW2 := Lib.hid (fun (u : World) (hu : OnlyS [w.heap.size + 2] wr u) (M Y : List (List UInt8)) (hst : StW T (w.heap.size + 2) u M Y) => want_st 1 (.inl rfl) hst HTLn.out (fun u2 hu2 => (HLC.out u2 (HBW.out u2 (HO3.out.trans (hu.trans hu2)))).2.2) htt.2.1 htt.2.2.2)
          have HCC := Lib.hid (fun (u : World) (hu : OnlyS [w.heap.size + 2] wr u) => (HLC.out u (HBW.out u (HO3.out.trans hu))).1)
          have HPP := Lib.hid (fun (u : World) (hu : OnlyS [w.heap.size + 2] wr u) => HP.out u (HO3.out.trans hu))
          obtain ⟨p0, p1⟩ := HPP.out wr (OnlyS.refl _ _)
          obtain ⟨y0, y1⟩ := HCC.out wr (OnlyS.refl _ _)
          have d3 : decide ((j : Int) < (ln : Int)) = true := decide_eq_true (by omega)
          have d4 : decide (j < ln) = true := decide_eq_true hltj
          have j0 : (0 : Int) ≤ (j : Int) := by omega
          have xx0 : (0 : Int) ≤ (x : Int) := by omega
          have xx1 : (x : Int) < (cn : Int) := by omega
          clear hcell hb5 hx hjl htt
          go_wp2_with fail
          refine (HW1.out).mono ?_
          rintro e w6 ⟨rfl, ho6, hs6⟩
          have HO6 := Lib.hid ho6
          have HS6 := Lib.hid (HW2.out w6 ho6 _ _ hs6)
          clear hs6 ho6 p0 p1 y0 y1 hc5
          obtain ⟨p0, p1⟩ := HPP.out w6 HO6.out
          obtain ⟨y0, y1⟩ := HCC.out w6 HO6.out
          go_wp2_with fail
          refine (HS6.out).mono ?_
          rintro e w7 ⟨rfl, ho7, hs7⟩
          have HO7 := Lib.hid (HOY.out.trans (HO6.out.trans ho7))
          have HS7 : Hid (StW T (w.heap.size + 2) w7 (Mt.mustI s (I ++ L.take (j + 1))) (Mt.mayI s (I ++ L.take (j + 1)))) := Lib.hid (by
            rw [HMT.out, HYT.out]
            exact hs7)
          clear hs7 ho7 p0 p1 y0 y1
          go_wp2_with fail
          go_roundw
          case rel => exact ⟨j + 1, by omega, by go_num, HO7, HS7⟩
          case measure => simp [intOf]; omega
        · obtain rfl : j = ln := by omega
          have d3 : decide ((j : Int) < (j : Int)) = false := decide_eq_false (by omega)
          have d4 : decide (j < j) = false := decide_eq_false (by omega)
          have HS8 : Hid (StW T (w.heap.size + 2) wr (Mt.mustI s (Mt.idxs s (cs.take (i + 1)))) (Mt.mayI s (Mt.idxs s (cs.take (i + 1))))) := Lib.hid (by
            rw [HTK.out]
            have := HSY.out
            rw [HTE.out] at this
            exact this)
          go_wp2_with fail
          go_roundw
          case rel => exact ⟨i + 1, by omega, by go_num, HO3, HS8⟩
          case measure => simp [intOf]; omega
    · obtain rfl : i = m := by omega
      have d1 : decide ((i : Int) < (i : Int)) = false := decide_eq_false (by omega)
      have d2 : decide (i < i) = false := decide_eq_false (by omega)
      have htk : cs.take i = cs := by rw [← HM.out]; exact List.take_length
      rw [htk] at HST
      have HT2 := Lib.hid (those_st 2 (by decide) HST.out HTLn.out)
      have HT1 := Lib.hid (fun (u : World) (hu : Below wr.heap.size wr u) => those_st 1 (by decide) (HST.out.keep hu) HTLn.out)
      have hwd : Mt.wantsS s cs = (Mt.those (Mt.mustI s (Mt.idxs s cs)) (Mt.mayI s (Mt.idxs s cs)) 2, Mt.those (Mt.mustI s (Mt.idxs s cs)) (Mt.mayI s (Mt.idxs s cs)) 1) := rfl
      generalize Mt.those (Mt.mustI s (Mt.idxs s cs)) (Mt.mayI s (Mt.idxs s cs)) 2 = A2 at *
      generalize Mt.those (Mt.mustI s (Mt.idxs s cs)) (Mt.mayI s (Mt.idxs s cs)) 1 = A1 at *
      have HWD := Lib.hid hwd
      clear hwd htk
      go_wp2_with fail
      refine (HT2.out).mono ?_
      rintro e w6 ⟨va, rfl, hna, hb6⟩
      have HB6 := Lib.hid hb6
      have HNA := Lib.hid hna
      clear hb6 hna
      go_wp2_with fail
      refine (HT1.out w6 HB6.out).mono ?_
      rintro e w7 ⟨vb, rfl, hnb, hb7⟩
      have HFIN := Lib.hid (And.intro (HNA.out.below hb7) (And.intro hnb (HB.out.trans ((HB6.out.mono HB.out.size).trans (hb7.mono (Nat.le_trans HB.out.size HB6.out.size))))))
      clear hb7 hnb
      go_wp2_with fail
      go_ret2
      exact ⟨va, vb, rfl, by rw [HWD.out]; exact HFIN.out.1, by rw [HWD.out]; exact HFIN.out.2.1, HFIN.out.2.2⟩
end Go.Proofs.Ytkinemlgifeimaa

/-
  The schema of the chapter, as it is laid.
-/
namespace Go.Proofs.Ytkinemlgifeimaa
open Go.RowKit

namespace Mt
def coreT : List Ty := [⟨[111, 98, 106, 101, 99, 116, 67, 108, 97, 115, 115], 3, false, false⟩, ⟨[99, 110], 1, false, false⟩, ⟨[115, 110], 1, false, false⟩, ⟨[111, 117], 1, false, false⟩, ⟨[111], 1, false, false⟩, ⟨[100, 99], 3, false, false⟩, ⟨[117, 105, 100], 3, false, false⟩, ⟨[109, 97, 105, 108], 3, false, false⟩, ⟨[100, 101, 115, 99, 114, 105, 112, 116, 105, 111, 110], 1, false, false⟩, ⟨[109, 101, 109, 98, 101, 114], 6, false, false⟩, ⟨[117, 115, 101, 114, 80, 97, 115, 115, 119, 111, 114, 100], 7, false, false⟩, ⟨[101, 109, 112, 108, 111, 121, 101, 101, 78, 117, 109, 98, 101, 114], 4, true, false⟩, ⟨[97, 99, 116, 105, 118, 101], 5, true, false⟩, ⟨[99, 114, 101, 97, 116, 101, 100, 65, 116], 4, true, true⟩, ⟨[99, 104, 97, 110, 103, 101, 100, 65, 116], 4, true, true⟩, ⟨[112, 119, 100, 70, 97, 105, 108, 117, 114, 101], 3, false, true⟩, ⟨[112, 119, 100, 76, 111, 99, 107, 101, 100], 4, true, true⟩, ⟨[112, 119, 100, 67, 104, 97, 110, 103, 101, 100], 4, true, true⟩]
def coreC : List Cl := [⟨[116, 111, 112], [], 0, [[111, 98, 106, 101, 99, 116, 67, 108, 97, 115, 115]], [[99, 114, 101, 97, 116, 101, 100, 65, 116], [99, 104, 97, 110, 103, 101, 100, 65, 116], [112, 119, 100, 70, 97, 105, 108, 117, 114, 101], [112, 119, 100, 76, 111, 99, 107, 101, 100], [112, 119, 100, 67, 104, 97, 110, 103, 101, 100]]⟩, ⟨[100, 111, 109, 97, 105, 110], [116, 111, 112], 1, [[100, 99]], [[100, 101, 115, 99, 114, 105, 112, 116, 105, 111, 110]]⟩, ⟨[111, 114, 103, 97, 110, 105, 122, 97, 116, 105, 111, 110], [116, 111, 112], 1, [[111]], [[100, 101, 115, 99, 114, 105, 112, 116, 105, 111, 110]]⟩, ⟨[111, 114, 103, 97, 110, 105, 122, 97, 116, 105, 111, 110, 97, 108, 85, 110, 105, 116], [116, 111, 112], 1, [[111, 117]], [[100, 101, 115, 99, 114, 105, 112, 116, 105, 111, 110]]⟩, ⟨[112, 101, 114, 115, 111, 110], [116, 111, 112], 1, [[99, 110], [115, 110]], [[100, 101, 115, 99, 114, 105, 112, 116, 105, 111, 110], [117, 115, 101, 114, 80, 97, 115, 115, 119, 111, 114, 100]]⟩, ⟨[105, 110, 101, 116, 80, 101, 114, 115, 111, 110], [112, 101, 114, 115, 111, 110], 1, [], [[117, 105, 100], [109, 97, 105, 108], [101, 109, 112, 108, 111, 121, 101, 101, 78, 117, 109, 98, 101, 114], [97, 99, 116, 105, 118, 101]]⟩, ⟨[103, 114, 111, 117, 112], [116, 111, 112], 1, [[99, 110], [109, 101, 109, 98, 101, 114]], [[100, 101, 115, 99, 114, 105, 112, 116, 105, 111, 110]]⟩, ⟨[115, 101, 99, 117, 114, 101, 100], [116, 111, 112], 2, [[117, 115, 101, 114, 80, 97, 115, 115, 119, 111, 114, 100]], []⟩, ⟨[108, 97, 98, 101, 108, 108, 101, 100], [116, 111, 112], 2, [], [[117, 105, 100], [109, 97, 105, 108]]⟩]
def core : Sc := ⟨coreT, coreC⟩
end Mt
/-- The cells of types. -/
def tyCells (l : List Mt.Ty) : List Value := l.flatMap fun t => [.string (Mt.str t.name), .int .i64 t.syn, .bool t.single, .bool t.oper]
theorem tyCells_get : ∀ (r : List Mt.Ty) (j : Nat) (hj : j < r.length), (tyCells r)[j * 4]? = some (.string (Mt.str r[j].name)) ∧ (tyCells r)[j * 4 + 1]? = some (.int .i64 r[j].syn) ∧ (tyCells r)[j * 4 + 2]? = some (.bool r[j].single) ∧ (tyCells r)[j * 4 + 3]? = some (.bool r[j].oper)
  | [], j, hj => by simp at hj
  | a :: r, 0, _ => ⟨rfl, rfl, rfl, rfl⟩
  | a :: r, j + 1, hj => by
    have h := tyCells_get r j (by simpa using hj)
    have e : tyCells (a :: r) = .string (Mt.str a.name) :: .int .i64 a.syn :: .bool a.single :: .bool a.oper :: tyCells r := rfl
    rw [e, show (j + 1) * 4 = j * 4 + 4 by omega]
    exact h
theorem tys_of_row {u : World} {g : Nat} {l : List Mt.Ty} {cs : Array Value} (h : u.heap[g]? = some (.cells cs 35)) (hc : cs = (tyCells l).toArray) : IsTys u (.slice (some ⟨g, 0, none⟩) l.length l.length) l := by
  refine ⟨_, _, rfl, Nat.le_refl _, Lib.hid fun j hj => ⟨g, 0, rfl, lt_of_block h, ?_⟩⟩
  obtain ⟨h0, h1, h2, h3⟩ := tyCells_get l j hj
  subst hc
  simp only [Nat.zero_add]
  exact ⟨by rw [cell_of_row _ _ _ _ _ _ h, List.getElem?_toArray]; exact h0, by rw [cell_of_row _ _ _ _ _ _ h, List.getElem?_toArray]; exact h1, by rw [cell_of_row _ _ _ _ _ _ h, List.getElem?_toArray]; exact h2, by rw [cell_of_row _ _ _ _ _ _ h, List.getElem?_toArray]; exact h3⟩
theorem nms_of_row {u : World} {g : Nat} {l : List (List UInt8)} {cs : Array Value} (h : u.heap[g]? = some (.cells cs 9)) (hc : cs = (nms l).toArray) : IsNms u (.slice (some ⟨g, 0, none⟩) l.length l.length) l := by
  refine ⟨_, _, rfl, Nat.le_refl _, Lib.hid fun j hj => ⟨g, 0, rfl, lt_of_block h, ?_⟩⟩
  subst hc
  rw [cell_of_row _ _ _ _ _ _ h, List.getElem?_toArray]
  simp [nms, hj]
theorem nms_none (u : World) : IsNms u (.slice none 0 0) [] := ⟨none, 0, rfl, Nat.le_refl _, Lib.hid fun j hj => absurd hj (by simp)⟩
/-- The cells of classes, with the slices of what they list. -/
def clCells (l : List (Mt.Cl × Value × Value)) : List Value := l.flatMap fun t => [.string (Mt.str t.1.name), .string (Mt.str t.1.sup), .int .i64 t.1.kind, t.2.1, t.2.2]
theorem clCells_get : ∀ (r : List (Mt.Cl × Value × Value)) (j : Nat) (hj : j < r.length), (clCells r)[j * 5]? = some (.string (Mt.str r[j].1.name)) ∧ (clCells r)[j * 5 + 1]? = some (.string (Mt.str r[j].1.sup)) ∧ (clCells r)[j * 5 + 2]? = some (.int .i64 r[j].1.kind) ∧ (clCells r)[j * 5 + 3]? = some r[j].2.1 ∧ (clCells r)[j * 5 + 4]? = some r[j].2.2
  | [], j, hj => by simp at hj
  | a :: r, 0, _ => ⟨rfl, rfl, rfl, rfl, rfl⟩
  | a :: r, j + 1, hj => by
    have h := clCells_get r j (by simpa using hj)
    have e : clCells (a :: r) = .string (Mt.str a.1.name) :: .string (Mt.str a.1.sup) :: .int .i64 a.1.kind :: a.2.1 :: a.2.2 :: clCells r := rfl
    rw [e, show (j + 1) * 5 = j * 5 + 5 by omega]
    exact h
theorem cls_of_row {u : World} {g : Nat} {l : List (Mt.Cl × Value × Value)} {cs : Array Value} (h : u.heap[g]? = some (.cells cs 31)) (hc : cs = (clCells l).toArray) (hl : ∀ p ∈ l, IsNms u p.2.1 p.1.must ∧ IsNms u p.2.2 p.1.may) : IsCls u (.slice (some ⟨g, 0, none⟩) l.length l.length) (l.map (·.1)) := by
  refine ⟨_, _, by rw [List.length_map], by rw [List.length_map]; exact Nat.le_refl _, Lib.hid fun j hj => ?_⟩
  rw [List.length_map] at hj
  obtain ⟨h0, h1, h2, h3, h4⟩ := clCells_get l j hj
  obtain ⟨h5, h6⟩ := hl _ (List.getElem_mem hj)
  subst hc
  simp only [Nat.zero_add, List.getElem_map]
  exact ⟨g, 0, l[j].2.1, l[j].2.2, rfl, lt_of_block h, by rw [Nat.zero_add, cell_of_row _ _ _ _ _ _ h, List.getElem?_toArray]; exact h0, by rw [Nat.zero_add, cell_of_row _ _ _ _ _ _ h, List.getElem?_toArray]; exact h1, by rw [Nat.zero_add, cell_of_row _ _ _ _ _ _ h, List.getElem?_toArray]; exact h2, by rw [Nat.zero_add, cell_of_row _ _ _ _ _ _ h, List.getElem?_toArray]; exact h3, by rw [Nat.zero_add, cell_of_row _ _ _ _ _ _ h, List.getElem?_toArray]; exact h4, h5, h6⟩
/-- What lies behind a place is as it was. -/
def Above (w w' u : World) : Prop := w'.heap.size ≤ u.heap.size ∧ ∀ k, w.heap.size ≤ k → k < w'.heap.size → u.heap[k]? = w'.heap[k]?
theorem Above.refl (w w' : World) : Above w w' w' := ⟨Nat.le_refl _, fun _ _ _ => rfl⟩
set_option maxRecDepth 100000 in
set_option maxHeartbeats 1000000 in
theorem coreTypes_any (w : World) : Calls Try.prog 44 #[] w fun e w' => ∃ g, e = .returned (.slice (some ⟨g, 0, none⟩) 18 18) ∧ Hid (∀ u, Above w w' u → IsTys u (.slice (some ⟨g, 0, none⟩) 18 18) Mt.coreT) ∧ Below w.heap.size w w' := by
  obtain ⟨w1, hw1⟩ : ∃ w1, w.alloc (.cells #[.string ⟨#[111, 98, 106, 101, 99, 116, 67, 108, 97, 115, 115]⟩, .int .i64 3, .bool false, .bool false, .string ⟨#[99, 110]⟩, .int .i64 1, .bool false, .bool false, .string ⟨#[115, 110]⟩, .int .i64 1, .bool false, .bool false, .string ⟨#[111, 117]⟩, .int .i64 1, .bool false, .bool false, .string ⟨#[111]⟩, .int .i64 1, .bool false, .bool false, .string ⟨#[100, 99]⟩, .int .i64 3, .bool false, .bool false, .string ⟨#[117, 105, 100]⟩, .int .i64 3, .bool false, .bool false, .string ⟨#[109, 97, 105, 108]⟩, .int .i64 3, .bool false, .bool false, .string ⟨#[100, 101, 115, 99, 114, 105, 112, 116, 105, 111, 110]⟩, .int .i64 1, .bool false, .bool false, .string ⟨#[109, 101, 109, 98, 101, 114]⟩, .int .i64 6, .bool false, .bool false, .string ⟨#[117, 115, 101, 114, 80, 97, 115, 115, 119, 111, 114, 100]⟩, .int .i64 7, .bool false, .bool false, .string ⟨#[101, 109, 112, 108, 111, 121, 101, 101, 78, 117, 109, 98, 101, 114]⟩, .int .i64 4, .bool true, .bool false, .string ⟨#[97, 99, 116, 105, 118, 101]⟩, .int .i64 5, .bool true, .bool false, .string ⟨#[99, 114, 101, 97, 116, 101, 100, 65, 116]⟩, .int .i64 4, .bool true, .bool true, .string ⟨#[99, 104, 97, 110, 103, 101, 100, 65, 116]⟩, .int .i64 4, .bool true, .bool true, .string ⟨#[112, 119, 100, 70, 97, 105, 108, 117, 114, 101]⟩, .int .i64 3, .bool false, .bool true, .string ⟨#[112, 119, 100, 76, 111, 99, 107, 101, 100]⟩, .int .i64 4, .bool true, .bool true, .string ⟨#[112, 119, 100, 67, 104, 97, 110, 103, 101, 100]⟩, .int .i64 4, .bool true, .bool true] 35) = w1 := ⟨_, rfl⟩
  have HB : Hid (Below w.heap.size w w1) := Lib.hid (by rw [← hw1]; exact (Below.refl _ w).alloc (Nat.le_refl _) _)
  have HR : Hid (∀ u, Above w w1 u → IsTys u (.slice (some ⟨w.heap.size, 0, none⟩) 18 18) Mt.coreT) := Lib.hid (fun u hu => by
    have h := heap_alloc_new w (.cells #[.string ⟨#[111, 98, 106, 101, 99, 116, 67, 108, 97, 115, 115]⟩, .int .i64 3, .bool false, .bool false, .string ⟨#[99, 110]⟩, .int .i64 1, .bool false, .bool false, .string ⟨#[115, 110]⟩, .int .i64 1, .bool false, .bool false, .string ⟨#[111, 117]⟩, .int .i64 1, .bool false, .bool false, .string ⟨#[111]⟩, .int .i64 1, .bool false, .bool false, .string ⟨#[100, 99]⟩, .int .i64 3, .bool false, .bool false, .string ⟨#[117, 105, 100]⟩, .int .i64 3, .bool false, .bool false, .string ⟨#[109, 97, 105, 108]⟩, .int .i64 3, .bool false, .bool false, .string ⟨#[100, 101, 115, 99, 114, 105, 112, 116, 105, 111, 110]⟩, .int .i64 1, .bool false, .bool false, .string ⟨#[109, 101, 109, 98, 101, 114]⟩, .int .i64 6, .bool false, .bool false, .string ⟨#[117, 115, 101, 114, 80, 97, 115, 115, 119, 111, 114, 100]⟩, .int .i64 7, .bool false, .bool false, .string ⟨#[101, 109, 112, 108, 111, 121, 101, 101, 78, 117, 109, 98, 101, 114]⟩, .int .i64 4, .bool true, .bool false, .string ⟨#[97, 99, 116, 105, 118, 101]⟩, .int .i64 5, .bool true, .bool false, .string ⟨#[99, 114, 101, 97, 116, 101, 100, 65, 116]⟩, .int .i64 4, .bool true, .bool true, .string ⟨#[99, 104, 97, 110, 103, 101, 100, 65, 116]⟩, .int .i64 4, .bool true, .bool true, .string ⟨#[112, 119, 100, 70, 97, 105, 108, 117, 114, 101]⟩, .int .i64 3, .bool false, .bool true, .string ⟨#[112, 119, 100, 76, 111, 99, 107, 101, 100]⟩, .int .i64 4, .bool true, .bool true, .string ⟨#[112, 119, 100, 67, 104, 97, 110, 103, 101, 100]⟩, .int .i64 4, .bool true, .bool true] 35)
    rw [hw1] at h
    exact tys_of_row (l := Mt.coreT) ((hu.2 w.heap.size (Nat.le_refl _) (lt_of_block h)).trans h) rfl)
  go_enter Try.func44, Try.ntmps44
  go_wp2_with fail
  go_ret
  exact ⟨_, rfl, HR, HB.out⟩
end Go.Proofs.Ytkinemlgifeimaa
