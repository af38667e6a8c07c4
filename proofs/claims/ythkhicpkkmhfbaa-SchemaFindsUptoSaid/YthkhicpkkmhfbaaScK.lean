/-
  The structural class of some classes.
-/
import Derived.Test.YthkhicpkkmhfbaaScJ
import Derived.Deep.LoopGhost
import Derived.WalkMore
namespace Go.Proofs.Ythkhicpkkmhfbaa
open Go.RowKit

theorem Mt.kindL_step (s : Mt.Sc) (l : List Nat) (i : Nat) (h : i < l.length) (A : List Nat) : (l.drop i).find? (fun (a : Nat) => Mt.hasAll A (Mt.chain s (Mt.clI s (a : Int)).name)) = if Mt.hasAll A (Mt.chain s (Mt.clI s (l[i] : Int)).name) = true then some l[i] else (l.drop (i + 1)).find? (fun (a : Nat) => Mt.hasAll A (Mt.chain s (Mt.clI s (a : Int)).name)) := by
  rw [List.drop_eq_getElem_cons h, List.find?_cons]
  cases Mt.hasAll A (Mt.chain s (Mt.clI s (l[i] : Int)).name) <;> rfl
theorem Mt.hasAll_step (l c : List Nat) (i : Nat) (h : i < l.length) : Mt.hasAll (l.drop i) c = (decide (l[i] ∈ c) && Mt.hasAll (l.drop (i + 1)) c) := by
  rw [List.drop_eq_getElem_cons h]; rfl
def KindP (s : Mt.Sc) (K : Option Nat) : Value := match K with
  | some a => .tuple #[.string (Mt.str (Mt.clI s (a : Int)).name), .bool true]
  | none => .tuple #[.string ⟨#[]⟩, .bool false]
def kindV (o : List UInt8 × Bool) : Value := .tuple #[.string (Mt.str o.1), .bool o.2]
theorem kindV_none {s : Mt.Sc} {cs : List (List UInt8)} (h : Mt.structF s cs [] = none) : kindV (Mt.kindS s cs) = .tuple #[.string ⟨#[]⟩, .bool false] := by unfold Mt.kindS; rw [h]; rfl
theorem kindV_some {s : Mt.Sc} {cs : List (List UInt8)} {l : List Nat} (h : Mt.structF s cs [] = some l) : kindV (Mt.kindS s cs) = KindP s (Mt.kindL s l) := by
  unfold Mt.kindS; rw [h]
  show kindV (match Mt.kindL s l with
    | some a => ((Mt.clI s (a : Int)).name, true)
    | none => ([], false)) = _
  cases Mt.kindL s l <;> rfl
set_option maxRecDepth 100000 in
set_option maxHeartbeats 1000000 in
theorem kind13_any {tv cv v : Value} {s : Mt.Sc} {cs : List (List UInt8)} {w : World} (h : IsSc w tv cv s) (hv : IsNms w v cs) (hf : FitN cs) :
    Calls Try.prog 23 #[.agg #[tv, cv], v] w fun e w' => e = .returned (kindV (Mt.kindS s cs)) ∧ Below w.heap.size w w' := by
  have HSTR := Lib.hid (fun (u : World) (hb : Below w.heap.size w u) => structural_any (h.below hb) (hv.below hb) hf)
  have HCH := Lib.hid (fun (n : List UInt8) (hn : n.length ≤ 140737488351232) (u : World) (hb : Below w.heap.size w u) => chain_any n hn (h.below hb))
  have HCN := Lib.hid (fun (u : World) (o : Value) (r : List Nat) (k : Nat) (ho : IsNats u o r) (hr : r.length ≤ 8796093022208) => containsInt_any ho k hr)
  have hclen := hf.1
  have hcl := h.clen
  have HNM : Hid (∀ j, j < s.classes.length → (Mt.clI s (j : Int)).name.length ≤ 140737488351232) := Lib.hid (fun j hj => by rw [Mt.clI_get hj]; have := (h.cnm _ (List.getElem_mem hj)).1; omega)
  obtain ⟨ta, tcap, hv1, -, -⟩ := h.types
  obtain ⟨ca, ccap, hv2, -, -⟩ := h.classes
  have HNA := Lib.hid (fun (j : Nat) (hj : j < s.classes.length) => name_at h hv2 j hj)
  obtain ⟨na, ncap, hv3, -, -⟩ := id hv
  have HCL := Lib.hid (fun n => Mt.chain_len s n)
  subst hv1 hv2 hv3
  obtain ⟨tn, htn⟩ : ∃ tn, s.types.length = tn := ⟨_, rfl⟩
  obtain ⟨cn, hcn⟩ : ∃ cn, s.classes.length = cn := ⟨_, rfl⟩
  rw [htn, hcn] at HSTR HCH
  rw [hcn] at HNM HNA hcl HCL
  rw [htn, hcn]
  generalize cs.length = m at *
  obtain ⟨w1, hw1⟩ : ∃ w1, w.alloc (.cells #[.slice ta tn tcap, .slice ca cn ccap] 25) = w1 := ⟨_, rfl⟩
  have hA1 : Below w.heap.size w w1 := by rw [← hw1]; exact (Below.refl _ w).alloc (Nat.le_refl _) _
  have hs1 : w1.heap.size = w.heap.size + 1 := by rw [← hw1]; simp
  have hx1 : w1.heap[w.heap.size]? = some (.cells #[.slice ta tn tcap, .slice ca cn ccap] 25) := by rw [← hw1]; exact heap_alloc_new w _
  have p0 : w1.cell? ⟨w.heap.size, 0, none⟩ = some (.slice ta tn tcap) := by rw [cell_of_row _ _ _ _ _ _ hx1]; rfl
  have p1 : w1.cell? ⟨w.heap.size, 1, none⟩ = some (.slice ca cn ccap) := by rw [cell_of_row _ _ _ _ _ _ hx1]; rfl
  obtain ⟨w2, hw2⟩ : ∃ w2, w1.alloc (.cells #[.slice ta tn tcap, .slice ca cn ccap] 59) = w2 := ⟨_, rfl⟩
  have hA2 : Below w1.heap.size w1 w2 := by rw [← hw2]; exact (Below.refl _ w1).alloc (Nat.le_refl _) _
  have HA2 := Lib.hid (hA1.trans (hA2.mono (by omega)))
  have hs2 : w2.heap.size = w.heap.size + 2 := by rw [← hw2]; simp [hs1]
  have hx2 : w2.heap[w1.heap.size]? = some (.cells #[.slice ta tn tcap, .slice ca cn ccap] 59) := by rw [← hw2]; exact heap_alloc_new w1 _
  rw [hs1] at hx2
  have HP : Hid (∀ u, Below w2.heap.size w2 u → u.cell? ⟨w.heap.size + 1, 0, none⟩ = some (.slice ta tn tcap) ∧ u.cell? ⟨w.heap.size + 1, 1, none⟩ = some (.slice ca cn ccap)) := Lib.hid (fun u hu => by
    have r1 := (hu.block (w.heap.size + 1) (by omega)).trans hx2
    exact ⟨by rw [cell_of_row _ _ _ _ _ _ r1]; rfl, by rw [cell_of_row _ _ _ _ _ _ r1]; rfl⟩)
  obtain ⟨q0, q1⟩ := HP.out w2 (Below.refl _ _)
  obtain ⟨R, hR⟩ : ∃ R, kindV (Mt.kindS s cs) = R := ⟨_, rfl⟩
  have HRN := Lib.hid (fun hn => hR.symm.trans (kindV_none (s := s) (cs := cs) hn))
  have HRS := Lib.hid (fun l hn => hR.symm.trans (kindV_some (s := s) (cs := cs) (l := l) hn))
  rw [hR]
  obtain ⟨S, hS⟩ : ∃ S, Mt.structF s cs [] = S := ⟨_, rfl⟩
  rw [hS] at HSTR HRN HRS
  clear h hv hf hx1 hx2 hA1 hA2 hR hS htn hcn
  go_enter Try.func23, Try.ntmps23
  go_wp2_with fail
  go_step3
  go_wp2_with fail
  refine (HSTR.out _ HA2.out).mono ?_
  rintro e w3 ⟨hst, hb⟩
  have HB3 := Lib.hid (HA2.out.trans (hb.mono HA2.out.size))
  have HW3 := Lib.hid hb
  clear hb p0 p1 q0 q1 HSTR
  cases S with
  | none =>
    have he : e = Ending.returned (.tuple #[.slice none 0 0, .bool false]) := hst
    subst he
    have HE := Lib.hid (HRN.out rfl)
    go_wp2_with fail
    all_goals ((try rw [Exit.noGoto_ret]); go_ret2; exact ⟨by rw [HE.out]; rfl, HB3.out⟩)
  | some l =>
    obtain ⟨o, rfl, hown, hll, hlm⟩ := hst
    have HE := Lib.hid (HRS.out l rfl)
    obtain ⟨la, lcap, rfl, hlc, HL⟩ := IsOwn.nats hown
    have HON : Hid (∀ u, Below w3.heap.size w3 u → IsNats u (.slice la l.length lcap) l) := Lib.hid (fun u hu => (IsOwn.nats hown).below hu)
    have HLL := Lib.hid hll
    have HK0 := Lib.hid (show (l.drop 0).find? (fun (a : Nat) => Mt.hasAll l (Mt.chain s (Mt.clI s (a : Int)).name)) = Mt.kindL s l from rfl)
    obtain ⟨K, hK⟩ : ∃ K, Mt.kindL s l = K := ⟨_, rfl⟩
    rw [hK] at HK0 HE
    obtain ⟨ln, hln⟩ : ∃ ln, l.length = ln := ⟨_, rfl⟩
    have HLN := Lib.hid hln
    rw [hln] at hlc hlm HON ⊢
    have HQ := Lib.hid (fun (u : World) (hu : Below w3.heap.size w3 u) => HP.out u (HW3.out.trans (hu.mono HW3.out.size)))
    clear hown hll hK hln HRN HRS
    go_wp2_with fail
    go_step3
    go_wp2_with fail
    go_loopg [26] ln (fun g iv wr => ∃ i : Nat, i + g = ln ∧ iv = .int .i64 (i : Int) ∧ Hid ((l.drop i).find? (fun (a : Nat) => Mt.hasAll l (Mt.chain s (Mt.clI s (a : Int)).name)) = K) ∧ Hid (Below w3.heap.size w3 wr))
    case atStart => exact ⟨0, by omega, rfl, HK0, Lib.hid (Below.refl _ _)⟩
    case round =>
      obtain ⟨i, hig, rfl, HI, HW⟩ := hrel
      have HB := Lib.hid (HB3.out.trans (HW.out.mono HB3.out.size))
      obtain ⟨q0, q1⟩ := HQ.out wr HW.out
      cases gk with
      | zero =>
        obtain rfl : i = ln := by omega
        have d1 : decide ((i : Int) < (i : Int)) = false := decide_eq_false (by omega)
        have d2 : decide (i < i) = false := decide_eq_false (by omega)
        have HKN : Hid (R = KindP s none) := Lib.hid (by
          rw [HE.out, ← HI.out, List.drop_of_length_le (by rw [HLN.out]; exact Nat.le_refl _)]; rfl)
        have HKE : Hid (R = .tuple #[.string ⟨#[]⟩, .bool false]) := Lib.hid HKN.out
        go_wp2_with fail
        all_goals ((try rw [Exit.noGoto_ret]); go_ret2; exact ⟨by rw [HKE.out]; rfl, HB.out⟩)
      | succ g =>
        have hlt : i < ln := by omega
        have hil : i < l.length := by rw [HLN.out]; exact hlt
        obtain ⟨b, off, e0, hbl, hc⟩ := HL.out i hil
        have x0 := (HW.out.cell (p := ⟨b, off + i, none⟩) hbl).trans hc
        have hst := Mt.kindL_step s l i hil l
        rw [HI.out] at hst
        obtain ⟨j, hj⟩ : ∃ j, l[i] = j := ⟨_, rfl⟩
        have hjc := HLL.out _ (List.getElem_mem hil)
        rw [hj] at x0 hjc hst
        have HST := Lib.hid hst
        obtain ⟨b2, off2, e2, hb2, HN2⟩ := HNA.out j hjc
        obtain ⟨n0, -⟩ := HN2.out wr HB.out
        have HC1 := Lib.hid (HCH.out _ (HNM.out j hjc))
        have hcle := HCL.out (Mt.clI s (j : Int)).name
        obtain ⟨C, hC⟩ : ∃ C, Mt.chain s (Mt.clI s (j : Int)).name = C := ⟨_, rfl⟩
        rw [hC] at HC1 hcle HST
        have HKP : Hid (KindP s (some j) = .tuple #[.string (Mt.str (Mt.clI s (j : Int)).name), .bool true]) := Lib.hid rfl
        obtain ⟨NM, hNM⟩ : ∃ NM, Mt.str (Mt.clI s (j : Int)).name = NM := ⟨_, rfl⟩
        rw [hNM] at n0 HC1 HKP HN2
        have d1 : decide ((i : Int) < (ln : Int)) = true := decide_eq_true (by omega)
        have d2 : decide (i < ln) = true := decide_eq_true hlt
        have i0 : (0 : Int) ≤ (i : Int) := by omega
        have j0 : (0 : Int) ≤ (j : Int) := by omega
        have j1 : (j : Int) < (cn : Int) := by omega
        subst e0 e2
        clear hbl hc hj hNM hil hb2 hst hC HI
        go_upto_region 8 with fail
        have HBd := Lib.hid HB.out.drew
        have HWd := Lib.hid HW.out.drew
        go_region_law (first | (go_simp; go_at_call 38; refine (HC1.out _ HBd.out).mono ?_; rintro e w4 ⟨cv, rfl, hown, hb⟩; obtain ⟨ca4, cc4, rfl, -, -⟩ := IsOwn.nats hown; have HO4 := Lib.hid (IsOwn.nats hown); have HB4 := Lib.hid (HBd.out.trans (hb.mono HBd.out.size)); have HW4 := Lib.hid (HWd.out.trans (hb.mono HWd.out.size)); clear hown hb))
        all_goals
          obtain ⟨Q, hQ⟩ : ∃ Q, Mt.hasAll l C = Q := ⟨_, rfl⟩
          rw [hQ] at HST
          have HQ0 := Lib.hid (show Mt.hasAll (l.drop 0) C = Q from hQ)
          clear hQ x0 n0 q0 q1
          go_wp2_with fail
          go_loopg [41] ln (fun g2 iv wy => ∃ j2 : Nat, j2 + g2 = ln ∧ iv = .int .i64 (j2 : Int) ∧ Hid (Mt.hasAll (l.drop j2) C = Q) ∧ Hid (Below w4.heap.size w4 wy))
          case atStart => exact ⟨0, by omega, rfl, HQ0, Lib.hid (Below.refl _ _)⟩
          case round =>
            obtain ⟨j2, hjg, rfl, HJ, HY⟩ := hrel
            have HBY := Lib.hid (HB4.out.trans (HY.out.mono HB4.out.size))
            have HWY := Lib.hid (HW4.out.trans (HY.out.mono HW4.out.size))
            obtain ⟨q0, q1⟩ := HQ.out wr HWY.out
            cases gk with
            | zero =>
              obtain rfl : j2 = ln := by omega
              have d3 : decide ((j2 : Int) < (j2 : Int)) = false := decide_eq_false (by omega)
              have d4 : decide (j2 < j2) = false := decide_eq_false (by omega)
              have hQt : Q = true := by rw [← HJ.out, List.drop_of_length_le (by rw [HLN.out]; exact Nat.le_refl _)]; rfl
              have HKS : Hid (R = .tuple #[.string NM, .bool true]) := Lib.hid (by
                rw [HE.out, HST.out, hQt, if_pos rfl]; exact HKP.out)
              obtain ⟨n0, -⟩ := HN2.out wr HBY.out
              clear hQt
              go_wp2_with fail
              all_goals ((try rw [Exit.noGoto_ret]); go_ret2; exact ⟨by rw [HKS.out]; rfl, HBY.out⟩)
            | succ g2 =>
              have hlt2 : j2 < ln := by omega
              have hjl : j2 < l.length := by rw [HLN.out]; exact hlt2
              obtain ⟨b3, off3, e3, hbl3, hc3⟩ := HL.out j2 hjl
              cases e3
              have x1 := (HWY.out.cell (p := ⟨b, off + j2, none⟩) hbl3).trans hc3
              have hst2 := Mt.hasAll_step l C j2 hjl
              rw [HJ.out] at hst2
              obtain ⟨o, ho⟩ : ∃ o, l[j2] = o := ⟨_, rfl⟩
              rw [ho] at x1 hst2
              have HCI := Lib.hid (HCN.out wr _ C o (HO4.out.below HY.out) (by omega))
              obtain ⟨z, hz⟩ : ∃ z, decide (o ∈ C) = z := ⟨_, rfl⟩
              rw [hz] at HCI hst2
              have HS2 := Lib.hid hst2
              have d3 : decide ((j2 : Int) < (ln : Int)) = true := decide_eq_true (by omega)
              have d4 : decide (j2 < ln) = true := decide_eq_true hlt2
              have i2 : (0 : Int) ≤ (j2 : Int) := by omega
              clear hbl3 hc3 ho hjl hst2 hz
              go_wp2_with fail
              refine (HCI.out).mono ?_
              rintro e w5 ⟨rfl, hb⟩
              have HB5 := Lib.hid (HBY.out.trans (hb.mono HBY.out.size))
              have HW5 := Lib.hid (HWY.out.trans (hb.mono HWY.out.size))
              have HY5 := Lib.hid (HY.out.trans (hb.mono HY.out.size))
              clear hb x1 q0 q1
              cases z with
              | false =>
                have HKR : Hid ((l.drop (i + 1)).find? (fun (a : Nat) => Mt.hasAll l (Mt.chain s (Mt.clI s (a : Int)).name)) = K) := Lib.hid (by
                  have hQf : Q = false := HS2.out
                  rw [HST.out, hQf, if_neg (by decide)])
                go_wp2_with fail
                go_roundg g
                case measure => omega
                case rel => exact ⟨i + 1, by omega, by first | rfl | go_num, HKR, HW5⟩
              | true =>
                have HJ2 : Hid (Mt.hasAll (l.drop (j2 + 1)) C = Q) := Lib.hid (by rw [HS2.out]; rfl)
                go_wp2_with fail
                go_roundg g2
                case measure => omega
                case rel => exact ⟨j2 + 1, by omega, by first | rfl | go_num, HJ2, HY5⟩
end Go.Proofs.Ythkhicpkkmhfbaa
