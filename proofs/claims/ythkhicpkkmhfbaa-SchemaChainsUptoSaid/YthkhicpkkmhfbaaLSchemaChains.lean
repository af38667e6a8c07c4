/-
  SchemaChains is proved: each class's chain begins with it, and goes on as its Sup's does. Condition: what comes in is of a bulk of at most 1048576.
-/
import Derived.Test.YthkhicpkkmhfbaaRows
import Derived.Test.YthkhicpkkmhfbaaScR
import Derived.Test.YthkhicpkkmhfbaaScYa
import Derived.Test.YthkhicpkkmhfbaaScX
import Derived.Test.YthkhicpkkmhfbaaRegion
import Derived.ProofKit
import Derived.Deep.CondSized
import Derived.OpenShut
import Derived.ShutString
import Derived.SizedLaws
namespace Go.Proofs.Ythkhicpkkmhfbaa.schemaChains
open Go.ChangeShapes Go.WideShapes Go.ChangeAt Go.RowKit
open Go.ChangeMaps (open_string shut_string)
set_option linter.unusedVariables false

set_option maxRecDepth 100000 in
set_option maxHeartbeats 4000000 in
theorem walk (s : Mt.Sc) (tv cv : Value) (hz : ∀ c ∈ s.classes, c.must.length + c.may.length ≤ 1048576) (w : World) (h : IsSc w tv cv s) :
    Calls Try.prog 8 #[.agg #[tv, cv]] w fun e w' => e = .returned (.bool true) ∧ Below w.heap.size w w' := by
  have HA := Lib.hid (fun u => awake13_any u)
  have HSM := Lib.hid (fun (u : World) (hb : Below w.heap.size w u) => small13_any (h.below hb) (fun c hc => Nat.le_trans (hz c hc) (by decide)))
  have HCH := Lib.hid (fun (n : List UInt8) (hn : n.length ≤ 140737488351232) (u : World) (hb : Below w.heap.size w u) => chainN_any n hn (h.below hb))
  have HCHL := Lib.hid (fun (i : Nat) (hi : i < s.classes.length) (hk : Mt.chk s = 0) => Mt.chains hk i hi)
  have HLEN := Lib.hid (fun n => show (Mt.chainN s n).length ≤ s.classes.length by unfold Mt.chainN; rw [List.length_map]; exact Mt.chain_len s n)
  obtain ⟨ta, tcap, hv1, htc, HTS⟩ := h.types
  obtain ⟨ca, ccap, hv2, hcc, HCS⟩ := h.classes
  have hlt := h.tlen
  have hlc := h.clen
  have HCM := Lib.hid h.cnm
  obtain ⟨n, hn⟩ : ∃ n, s.types.length = n := ⟨_, rfl⟩
  obtain ⟨m, hm⟩ : ∃ m, s.classes.length = m := ⟨_, rfl⟩
  have HMM := Lib.hid hm
  rw [hn] at hv1 hlt htc
  rw [hm] at hv2 hlc hcc HLEN
  subst hv1 hv2
  obtain ⟨w1, hw1⟩ : ∃ w1, w.alloc (.cells #[.slice ta n tcap, .slice ca m ccap] 25) = w1 := ⟨_, rfl⟩
  have hA1 : Below w.heap.size w w1 := by rw [← hw1]; exact (Below.refl _ w).alloc (Nat.le_refl _) _
  have hs1 : w1.heap.size = w.heap.size + 1 := by rw [← hw1]; simp
  have hx1 : w1.heap[w.heap.size]? = some (.cells #[.slice ta n tcap, .slice ca m ccap] 25) := by rw [← hw1]; exact heap_alloc_new w _
  have HA1 := Lib.hid hA1
  have HP : Hid (∀ u, Below w1.heap.size w1 u → (u.cell? ⟨w.heap.size, 0, none⟩ = some (.slice ta n tcap) ∧ u.cell? ⟨w.heap.size, 1, none⟩ = some (.slice ca m ccap)) ∧ Below w.heap.size w u) := Lib.hid (fun u hu => by
    have r1 := (hu.block w.heap.size (by omega)).trans hx1
    exact ⟨⟨by rw [cell_of_row _ _ _ _ _ _ r1]; rfl, by rw [cell_of_row _ _ _ _ _ _ r1]; rfl⟩, hA1.trans (hu.mono hA1.size)⟩)
  obtain ⟨p0, p1⟩ := (HP.out w1 (Below.refl _ _)).1
  have HS0 : Hid (Mt.smallS s = true → Mt.chk s = 0 ∧ m ≤ 40) := Lib.hid (fun hh => by
    unfold Mt.smallS at hh
    simp only [Bool.and_eq_true, decide_eq_true_eq] at hh
    exact ⟨hh.2, by omega⟩)
  obtain ⟨S, hS⟩ : ∃ S, Mt.smallS s = S := ⟨_, rfl⟩
  rw [hS] at HSM HS0
  clear h hn hm hx1 hA1 hz hS
  cases S with
  | false =>
    go_enter Try.func8, Try.ntmps8
    go_wp2_with fail
    refine (HSM.out _ HA1.out).mono ?_
    rintro e w2 ⟨rfl, hb⟩
    have HB2 := Lib.hid (HA1.out.trans (hb.mono HA1.out.size))
    clear hb
    go_wp2_with fail
    refine (HA.out _).mono ?_
    rintro e w3 ⟨rfl, hb⟩
    have HB3 := Lib.hid (HB2.out.trans (hb.mono HB2.out.size))
    clear hb
    go_wp2_with fail
    all_goals (go_ret; exact ⟨rfl, HB3.out⟩)
  | true =>
    have HK0 := Lib.hid (HS0.out rfl).1
    have hm40 := (HS0.out rfl).2
    clear HS0
    go_enter Try.func8, Try.ntmps8
    go_wp2_with fail
    refine (HSM.out _ HA1.out).mono ?_
    rintro e w0 ⟨rfl, hb⟩
    have HW0 : Hid (Below w1.heap.size w1 w0) := Lib.hid (hb.mono (Nat.le_refl _))
    clear hb p0 p1
    obtain ⟨⟨p0, p1⟩, -⟩ := HP.out w0 HW0.out
    go_wp2_with fail
    go_loopw [13] (fun iv wr => ∃ j : Nat, j ≤ m ∧ iv = .int .i64 (j : Int) ∧ Hid (Below w1.heap.size w1 wr)) (fun iv _ => m - (intOf iv).toNat)
    case atStart => exact ⟨0, Nat.zero_le _, rfl, HW0⟩
    case round =>
      obtain ⟨j, hj, rfl, HW⟩ := hrel
      clear p0 p1
      obtain ⟨⟨p0, p1⟩, hB⟩ := HP.out wr HW.out
      have HB := Lib.hid hB
      clear hB
      by_cases hlt2 : j < m
      · have e1 : decide ((j : Int) < (m : Int)) = true := decide_eq_true (by omega)
        have e2 : decide (j < m) = true := decide_eq_true hlt2
        have hit : j < s.classes.length := by rw [HMM.out]; exact hlt2
        obtain ⟨r, hr1, hr2, hr3⟩ := HCHL.out j hit HK0.out
        rw [Mt.clI_get hit] at hr1 hr2 hr3
        obtain ⟨b, off, mv, yv, e0, hbl, h0, h1, h2, h3, h4, hmv, hyv⟩ := HCS.out j hit
        have hcm := HCM.out _ (List.getElem_mem hit)
        obtain ⟨am, cm, rfl, -, -⟩ := id hmv
        obtain ⟨ay, cy, rfl, -, -⟩ := id hyv
        subst e0
        obtain ⟨c, hc⟩ : ∃ c, s.classes[j] = c := ⟨_, rfl⟩
        rw [hc] at h0 h1 h2 h3 h4 hcm hr1 hr2 hr3
        have y0 := (HB.out.cell (p := ⟨b, off + j * 5, none⟩) hbl).trans h0
        have y1 := (HB.out.cell (p := ⟨b, off + j * 5 + 1, none⟩) hbl).trans h1
        have y2 := (HB.out.cell (p := ⟨b, off + j * 5 + 2, none⟩) hbl).trans h2
        have y3 := (HB.out.cell (p := ⟨b, off + j * 5 + 3, none⟩) hbl).trans h3
        have y4 := (HB.out.cell (p := ⟨b, off + j * 5 + 4, none⟩) hbl).trans h4
        generalize c.must.length = ml at *
        generalize c.may.length = yl at *
        have HC1 := Lib.hid (HCH.out c.name hcm.1)
        have HC2 := Lib.hid (HCH.out c.sup hcm.2.1)
        have hln := HLEN.out c.name
        have hln2 := HLEN.out c.sup
        rw [hr1] at HC1 hln
        obtain ⟨CS, hCS⟩ : ∃ l, Mt.chainN s c.sup = l := ⟨_, rfl⟩
        rw [hCS] at HC2 hr3 hln2
        have hU := Mt.str_beq c.sup []
        have HU : Hid ((Mt.str c.sup).toList.isEmpty = decide (c.sup = [])) := Lib.hid (by
          rw [ByteArray.toList_eq, Mt.str_data, Bool.eq_iff_iff, List.isEmpty_iff, decide_eq_true_eq])
        have HR2 := Lib.hid hr2
        have HR3 := Lib.hid hr3
        obtain ⟨N, hN⟩ : ∃ N, Mt.str c.name = N := ⟨_, rfl⟩
        have HNN := Lib.hid hN
        rw [hN] at y0 HC1
        generalize Mt.str c.sup = U at *
        generalize c.kind = kc at *
        obtain ⟨w2, hw2⟩ : ∃ u, wr.alloc (.cells #[.string N, .string U, .int .i64 kc, .slice am ml cm, .slice ay yl cy] 31) = u := ⟨_, rfl⟩
        have hb2 : Below wr.heap.size wr w2 := by rw [← hw2]; exact (Below.refl _ wr).alloc (Nat.le_refl _) _
        have hx2 : w2.heap[wr.heap.size]? = some (.cells #[.string N, .string U, .int .i64 kc, .slice am ml cm, .slice ay yl cy] 31) := by rw [← hw2]; exact heap_alloc_new wr _
        have hs2 : wr.heap.size < w2.heap.size := lt_of_block hx2
        have HW2 := Lib.hid (HW.out.trans (hb2.mono HW.out.size))
        have HQ : Hid (∀ u, Below w2.heap.size w2 u → (u.cell? ⟨w.heap.size, 0, none⟩ = some (.slice ta n tcap) ∧ u.cell? ⟨w.heap.size, 1, none⟩ = some (.slice (some ⟨b, off, none⟩) m ccap)) ∧ (u.cell? ⟨wr.heap.size, 0, none⟩ = some (.string N) ∧ u.cell? ⟨wr.heap.size, 1, none⟩ = some (.string U) ∧ u.cell? ⟨wr.heap.size, 2, none⟩ = some (.int .i64 kc) ∧ u.cell? ⟨wr.heap.size, 3, none⟩ = some (.slice am ml cm) ∧ u.cell? ⟨wr.heap.size, 4, none⟩ = some (.slice ay yl cy)) ∧ Below w.heap.size w u ∧ Below w1.heap.size w1 u) := Lib.hid (fun u hu => by
          have r2 := (hu.block wr.heap.size hs2).trans hx2
          have hw := HW2.out.trans (hu.mono (Nat.le_trans HW.out.size hb2.size))
          exact ⟨(HP.out u hw).1, (box5_of r2).1, (HP.out u hw).2, hw⟩)
        have i0 : (0 : Int) ≤ (j : Int) := by omega
        have i1 : (j : Int) < (m : Int) := by omega
        clear h0 h1 h2 h3 h4 hbl hc hcm hmv hyv hb2 hx2 hr1 hr2 hr3 hU hCS hN
        go_upto_region 6 with fail
        clear p0 p1
        obtain ⟨⟨p0, p1⟩, ⟨z0, z1, z2, z3, z4⟩, hB2, -⟩ := HQ.out w2 (Below.refl _ _)
        have HB2 := Lib.hid hB2
        clear hB2
        go_wp2_with fail
        refine (HC1.out _ HB2.out).mono ?_
        rintro e w3 ⟨v, rfl, hown, hb⟩
        have HV := Lib.hid (IsOwn.nms hown)
        have HY3 : Hid (Below w2.heap.size w2 w3) := Lib.hid hb
        clear hb hown
        obtain ⟨a, cap, rfl, hcap, HL⟩ := HV.out
        obtain ⟨b3, off3, e3, hb3, x0⟩ := HL.out 0 (by simp)
        subst e3
        obtain ⟨c3, rfl⟩ : ∃ c3, cap = c3 + 1 := ⟨cap - 1, by simp only [List.length_cons] at hcap; omega⟩
        simp only [List.length_cons, Nat.add_zero, List.getElem_cons_zero] at x0 hcap hln HV
        rw [HNN.out] at x0
        obtain ⟨k, hk⟩ : ∃ k, r.length = k := ⟨_, rfl⟩
        rw [hk] at hcap hln HV
        rw [List.length_cons, hk]
        have HT := Lib.hid (IsNms.tail HV.out)
        have HX : Hid (∀ u, Below w3.heap.size w3 u → (u.cell? ⟨w.heap.size, 0, none⟩ = some (.slice ta n tcap) ∧ u.cell? ⟨w.heap.size, 1, none⟩ = some (.slice (some ⟨b, off, none⟩) m ccap) ∧ u.cell? ⟨wr.heap.size, 0, none⟩ = some (.string N) ∧ u.cell? ⟨wr.heap.size, 1, none⟩ = some (.string U) ∧ u.cell? ⟨b3, off3, none⟩ = some (.string N)) ∧ Below w.heap.size w u ∧ Below w1.heap.size w1 u) := Lib.hid (fun u hu => by
          obtain ⟨⟨q0, q1⟩, ⟨q2, q3, -, -, -⟩, q4, q5⟩ := HQ.out u (HY3.out.trans (hu.mono HY3.out.size))
          exact ⟨⟨q0, q1, q2, q3, (hu.cell (p := ⟨b3, off3, none⟩) hb3).trans x0⟩, q4, q5⟩)
        clear p0 p1 z0 z1 z2 z3 z4 HC1 HL hb3 x0 HQ
        obtain ⟨⟨p0, p1, z0, z1, x0⟩, hB3, hW3⟩ := HX.out w3 (Below.refl _ _)
        have HB3 := Lib.hid hB3
        have HW3 := Lib.hid hW3
        clear hB3 hW3
        have e5 : (N.toList == N.toList) = true := beq_self_eq_true _
        have e6 : ((k : Int) + 1 == 0) = false := by simp; omega
        have i5 : (0 : Int) < (k : Int) + 1 := by omega
        by_cases hse : c.sup = []
        · have he : U.toList.isEmpty = true := by rw [HU.out, decide_eq_true hse]
          have hk0 : k = 0 := by rw [← hk, HR2.out hse]; rfl
          subst hk0
          clear hse hk HV HT
          go_upto_region 7 with fail
          go_quiet (fail)
          go_wp2_with fail
          go_roundw
          case rel => exact ⟨j + 1, by omega, by go_num, Lib.hid (Below.drewS HW3.out _)⟩
          case measure => simp [intOf]; omega
        · have he : U.toList.isEmpty = false := by rw [HU.out, decide_eq_false hse]
          obtain ⟨hrc, hr0⟩ := HR3.out hse
          have hc0 : c3 ≠ 0 := by omega
          have HSAME := Lib.hid (fun (u : World) (a b : Value) (h1 : IsNms u a r) (h2 : IsNms u b CS) => same13_any h1 h2 (by omega))
          rw [decide_eq_true hrc] at HSAME
          clear hse hk hrc hr0
          go_upto_region 7 with fail
          have i6 : (1 : Int) ≤ (k : Int) + 1 := by omega
          clear p0 p1 z0 z1 x0
          have HT2 := Lib.hid (HT.out.1 hc0)
          clear HV HT
          have c0 : decide (c3 = 0) = false := decide_eq_false hc0
          generalize hF : (Act.mk _ _) = F
          have HF1 : Hid (F.tmps[1]? = some (.pointer (some ⟨w.heap.size, 0, none⟩))) := Lib.hid (by rw [← hF]; rfl)
          have HF4 : Hid (F.tmps[4]? = some (.pointer (some ⟨wr.heap.size, 0, none⟩))) := Lib.hid (by rw [← hF]; rfl)
          have HF5 : Hid (F.tmps[5]? = some (.slice (some ⟨b3, off3, none⟩) (k + 1) (c3 + 1))) := Lib.hid (by rw [← hF]; rfl)
          have HSZ : Hid (21 + 36 ≤ F.tmps.size) := Lib.hid (by rw [← hF]; exact of_decide_eq_true rfl)
          have HF := Lib.hid hF
          clear hF
          refine wp_region_good (by kernel_rfl) F 21 [.slice (some ⟨b3, off3, none⟩) (k + 1) (c3 + 1), .int .i64 ((k : Int) + 1), .bool false, .bool false, .slice (some ⟨b3, off3, none⟩) (k + 1) (c3 + 1), .pointer (some ⟨b3, off3, none⟩), .string N, .pointer (some ⟨wr.heap.size, 0, none⟩), .string N, .bool false, .bool false, .bool false, .pointer (some ⟨wr.heap.size, 1, none⟩), .string U, .bool false, .bool false, undef, undef, undef, .bool false, .bool false, .bool false, .pointer (some ⟨wr.heap.size, 1, none⟩), .string U, .bool true, .bool true, .slice (some ⟨b3, off3, none⟩) (k + 1) (c3 + 1), .slice (some ⟨b3, off3 + 1, none⟩) k c3, .agg #[.slice ta n tcap, .slice (some ⟨b, off, none⟩) m ccap], .pointer (some ⟨wr.heap.size, 1, none⟩), .string U, undef, .bool true, .bool false, .bool false, .bool false] 31 (fun x u => IsNms u x CS) w3 (fun x u u' hb h => h.below hb) rfl HSZ.out (by kernel_rfl) (by kernel_rfl) (by decide) ?step ?fin
          case step =>
            intro i o ho a X u hu hout hd hX
            match i, ho with
            | 0, ho =>
              obtain rfl := Option.some.inj ho
              have f5 : a.tmps[5]? = some (.slice (some ⟨b3, off3, none⟩) (k + 1) (c3 + 1)) := (hout 5 (by decide)).trans HF5.out
              clear hd ho hout hX
              refine wpOp_step rfl (fun K' hK' => ?_)
              go_simp
              exact hK' _ _ ⟨fun _ => rfl, fun h => absurd h (by decide), Below.refl _ _⟩
            | 1, ho =>
              obtain rfl := Option.some.inj ho
              have e0' : a.tmps[21]? = some (.slice (some ⟨b3, off3, none⟩) (k + 1) (c3 + 1)) := hd 0 rfl (by decide)
              clear hd ho hout hX
              refine wpOp_step rfl (fun K' hK' => ?_)
              go_simp
              exact hK' _ _ ⟨fun _ => rfl, fun h => absurd h (by decide), Below.refl _ _⟩
            | 2, ho =>
              obtain rfl := Option.some.inj ho
              have e1' : a.tmps[22]? = some (.int .i64 ((k : Int) + 1)) := hd 1 rfl (by decide)
              clear hd ho hout hX
              refine wpOp_step rfl (fun K' hK' => ?_)
              go_simp
              exact hK' _ _ ⟨fun _ => rfl, fun h => absurd h (by decide), Below.refl _ _⟩
            | 3, ho =>
              obtain rfl := Option.some.inj ho
              have e2' : a.tmps[23]? = some (.bool false) := hd 2 rfl (by decide)
              clear hd ho hout hX
              refine wpOp_step rfl (fun K' hK' => ?_)
              go_simp
              exact hK' _ _ ⟨fun _ => rfl, fun h => absurd h (by decide), Below.refl _ _⟩
            | 4, ho =>
              obtain rfl := Option.some.inj ho
              have e3' : a.tmps[24]? = some (.bool false) := hd 3 rfl (by decide)
              have f5 : a.tmps[5]? = some (.slice (some ⟨b3, off3, none⟩) (k + 1) (c3 + 1)) := (hout 5 (by decide)).trans HF5.out
              clear hd ho hout hX
              refine wpOp_step rfl (fun K' hK' => ?_)
              go_simp
              exact hK' _ _ ⟨fun _ => rfl, fun h => absurd h (by decide), Below.refl _ _⟩
            | 5, ho =>
              obtain rfl := Option.some.inj ho
              have e3' : a.tmps[24]? = some (.bool false) := hd 3 rfl (by decide)
              have e4' : a.tmps[25]? = some (.slice (some ⟨b3, off3, none⟩) (k + 1) (c3 + 1)) := hd 4 rfl (by decide)
              clear hd ho hout hX
              refine wpOp_step rfl (fun K' hK' => ?_)
              go_simp
              exact hK' _ _ ⟨fun _ => rfl, fun h => absurd h (by decide), Below.refl _ _⟩
            | 6, ho =>
              obtain rfl := Option.some.inj ho
              have e3' : a.tmps[24]? = some (.bool false) := hd 3 rfl (by decide)
              have e5' : a.tmps[26]? = some (.pointer (some ⟨b3, off3, none⟩)) := hd 5 rfl (by decide)
              clear hd ho hout hX
              refine wpOp_step rfl (fun K' hK' => ?_)
              obtain ⟨⟨q0, q1, q2, q3, q4⟩, -, -⟩ := HX.out _ hu
              go_simp
              exact hK' _ _ ⟨fun _ => rfl, fun h => absurd h (by decide), Below.refl _ _⟩
            | 7, ho =>
              obtain rfl := Option.some.inj ho
              have e3' : a.tmps[24]? = some (.bool false) := hd 3 rfl (by decide)
              have f4 : a.tmps[4]? = some (.pointer (some ⟨wr.heap.size, 0, none⟩)) := (hout 4 (by decide)).trans HF4.out
              clear hd ho hout hX
              refine wpOp_step rfl (fun K' hK' => ?_)
              go_simp
              exact hK' _ _ ⟨fun _ => rfl, fun h => absurd h (by decide), Below.refl _ _⟩
            | 8, ho =>
              obtain rfl := Option.some.inj ho
              have e3' : a.tmps[24]? = some (.bool false) := hd 3 rfl (by decide)
              have e7' : a.tmps[28]? = some (.pointer (some ⟨wr.heap.size, 0, none⟩)) := hd 7 rfl (by decide)
              clear hd ho hout hX
              refine wpOp_step rfl (fun K' hK' => ?_)
              obtain ⟨⟨q0, q1, q2, q3, q4⟩, -, -⟩ := HX.out _ hu
              go_simp
              exact hK' _ _ ⟨fun _ => rfl, fun h => absurd h (by decide), Below.refl _ _⟩
            | 9, ho =>
              obtain rfl := Option.some.inj ho
              have e3' : a.tmps[24]? = some (.bool false) := hd 3 rfl (by decide)
              have e6' : a.tmps[27]? = some (.string N) := hd 6 rfl (by decide)
              have e8' : a.tmps[29]? = some (.string N) := hd 8 rfl (by decide)
              clear hd ho hout hX
              refine wpOp_step rfl (fun K' hK' => ?_)
              go_simp
              exact hK' _ _ ⟨fun _ => rfl, fun h => absurd h (by decide), Below.refl _ _⟩
            | 10, ho =>
              obtain rfl := Option.some.inj ho
              have e3' : a.tmps[24]? = some (.bool false) := hd 3 rfl (by decide)
              have e9' : a.tmps[30]? = some (.bool false) := hd 9 rfl (by decide)
              clear hd ho hout hX
              refine wpOp_step rfl (fun K' hK' => ?_)
              go_simp
              exact hK' _ _ ⟨fun _ => rfl, fun h => absurd h (by decide), Below.refl _ _⟩
            | 11, ho =>
              obtain rfl := Option.some.inj ho
              have e10' : a.tmps[31]? = some (.bool false) := hd 10 rfl (by decide)
              clear hd ho hout hX
              refine wpOp_step rfl (fun K' hK' => ?_)
              go_simp
              exact hK' _ _ ⟨fun _ => rfl, fun h => absurd h (by decide), Below.refl _ _⟩
            | 12, ho =>
              obtain rfl := Option.some.inj ho
              have e11' : a.tmps[32]? = some (.bool false) := hd 11 rfl (by decide)
              have f4 : a.tmps[4]? = some (.pointer (some ⟨wr.heap.size, 0, none⟩)) := (hout 4 (by decide)).trans HF4.out
              clear hd ho hout hX
              refine wpOp_step rfl (fun K' hK' => ?_)
              go_simp
              exact hK' _ _ ⟨fun _ => rfl, fun h => absurd h (by decide), Below.refl _ _⟩
            | 13, ho =>
              obtain rfl := Option.some.inj ho
              have e11' : a.tmps[32]? = some (.bool false) := hd 11 rfl (by decide)
              have e12' : a.tmps[33]? = some (.pointer (some ⟨wr.heap.size, 1, none⟩)) := hd 12 rfl (by decide)
              clear hd ho hout hX
              refine wpOp_step rfl (fun K' hK' => ?_)
              obtain ⟨⟨q0, q1, q2, q3, q4⟩, -, -⟩ := HX.out _ hu
              go_simp
              exact hK' _ _ ⟨fun _ => rfl, fun h => absurd h (by decide), Below.refl _ _⟩
            | 14, ho =>
              obtain rfl := Option.some.inj ho
              have e11' : a.tmps[32]? = some (.bool false) := hd 11 rfl (by decide)
              have e13' : a.tmps[34]? = some (.string U) := hd 13 rfl (by decide)
              clear hd ho hout hX
              refine wpOp_step rfl (fun K' hK' => ?_)
              go_simp
              exact hK' _ _ ⟨fun _ => rfl, fun h => absurd h (by decide), Below.refl _ _⟩
            | 15, ho =>
              obtain rfl := Option.some.inj ho
              have e11' : a.tmps[32]? = some (.bool false) := hd 11 rfl (by decide)
              have e14' : a.tmps[35]? = some (.bool false) := hd 14 rfl (by decide)
              clear hd ho hout hX
              refine wpOp_step rfl (fun K' hK' => ?_)
              go_simp
              exact hK' _ _ ⟨fun _ => rfl, fun h => absurd h (by decide), Below.refl _ _⟩
            | 16, ho =>
              obtain rfl := Option.some.inj ho
              have e15' : a.tmps[36]? = some (.bool false) := hd 15 rfl (by decide)
              have f5 : a.tmps[5]? = some (.slice (some ⟨b3, off3, none⟩) (k + 1) (c3 + 1)) := (hout 5 (by decide)).trans HF5.out
              clear hd ho hout hX
              refine wpOp_step rfl (fun K' hK' => ?_)
              go_simp
              exact hK' _ _ ⟨fun _ => rfl, fun h => absurd h (by decide), Below.refl _ _⟩
            | 17, ho =>
              obtain rfl := Option.some.inj ho
              have e15' : a.tmps[36]? = some (.bool false) := hd 15 rfl (by decide)
              clear hd ho hout hX
              refine wpOp_step rfl (fun K' hK' => ?_)
              go_simp
              exact hK' _ _ ⟨fun _ => rfl, fun h => absurd h (by decide), Below.refl _ _⟩
            | 18, ho =>
              obtain rfl := Option.some.inj ho
              have e15' : a.tmps[36]? = some (.bool false) := hd 15 rfl (by decide)
              clear hd ho hout hX
              refine wpOp_step rfl (fun K' hK' => ?_)
              go_simp
              exact hK' _ _ ⟨fun _ => rfl, fun h => absurd h (by decide), Below.refl _ _⟩
            | 19, ho =>
              obtain rfl := Option.some.inj ho
              have e11' : a.tmps[32]? = some (.bool false) := hd 11 rfl (by decide)
              have e15' : a.tmps[36]? = some (.bool false) := hd 15 rfl (by decide)
              have e18' : a.tmps[39]? = some (undef) := hd 18 rfl (by decide)
              clear hd ho hout hX
              refine wpOp_step rfl (fun K' hK' => ?_)
              go_simp
              exact hK' _ _ ⟨fun _ => rfl, fun h => absurd h (by decide), Below.refl _ _⟩
            | 20, ho =>
              obtain rfl := Option.some.inj ho
              have e11' : a.tmps[32]? = some (.bool false) := hd 11 rfl (by decide)
              have e19' : a.tmps[40]? = some (.bool false) := hd 19 rfl (by decide)
              clear hd ho hout hX
              refine wpOp_step rfl (fun K' hK' => ?_)
              go_simp
              exact hK' _ _ ⟨fun _ => rfl, fun h => absurd h (by decide), Below.refl _ _⟩
            | 21, ho =>
              obtain rfl := Option.some.inj ho
              have e20' : a.tmps[41]? = some (.bool false) := hd 20 rfl (by decide)
              clear hd ho hout hX
              refine wpOp_step rfl (fun K' hK' => ?_)
              go_simp
              exact hK' _ _ ⟨fun _ => rfl, fun h => absurd h (by decide), Below.refl _ _⟩
            | 22, ho =>
              obtain rfl := Option.some.inj ho
              have e21' : a.tmps[42]? = some (.bool false) := hd 21 rfl (by decide)
              have f4 : a.tmps[4]? = some (.pointer (some ⟨wr.heap.size, 0, none⟩)) := (hout 4 (by decide)).trans HF4.out
              clear hd ho hout hX
              refine wpOp_step rfl (fun K' hK' => ?_)
              go_simp
              exact hK' _ _ ⟨fun _ => rfl, fun h => absurd h (by decide), Below.refl _ _⟩
            | 23, ho =>
              obtain rfl := Option.some.inj ho
              have e21' : a.tmps[42]? = some (.bool false) := hd 21 rfl (by decide)
              have e22' : a.tmps[43]? = some (.pointer (some ⟨wr.heap.size, 1, none⟩)) := hd 22 rfl (by decide)
              clear hd ho hout hX
              refine wpOp_step rfl (fun K' hK' => ?_)
              obtain ⟨⟨q0, q1, q2, q3, q4⟩, -, -⟩ := HX.out _ hu
              go_simp
              exact hK' _ _ ⟨fun _ => rfl, fun h => absurd h (by decide), Below.refl _ _⟩
            | 24, ho =>
              obtain rfl := Option.some.inj ho
              have e21' : a.tmps[42]? = some (.bool false) := hd 21 rfl (by decide)
              have e23' : a.tmps[44]? = some (.string U) := hd 23 rfl (by decide)
              clear hd ho hout hX
              refine wpOp_step rfl (fun K' hK' => ?_)
              go_simp
              exact hK' _ _ ⟨fun _ => rfl, fun h => absurd h (by decide), Below.refl _ _⟩
            | 25, ho =>
              obtain rfl := Option.some.inj ho
              have e21' : a.tmps[42]? = some (.bool false) := hd 21 rfl (by decide)
              have e24' : a.tmps[45]? = some (.bool true) := hd 24 rfl (by decide)
              clear hd ho hout hX
              refine wpOp_step rfl (fun K' hK' => ?_)
              go_simp
              exact hK' _ _ ⟨fun _ => rfl, fun h => absurd h (by decide), Below.refl _ _⟩
            | 26, ho =>
              obtain rfl := Option.some.inj ho
              have e25' : a.tmps[46]? = some (.bool true) := hd 25 rfl (by decide)
              have f5 : a.tmps[5]? = some (.slice (some ⟨b3, off3, none⟩) (k + 1) (c3 + 1)) := (hout 5 (by decide)).trans HF5.out
              clear hd ho hout hX
              refine wpOp_step rfl (fun K' hK' => ?_)
              go_simp
              exact hK' _ _ ⟨fun _ => rfl, fun h => absurd h (by decide), Below.refl _ _⟩
            | 27, ho =>
              obtain rfl := Option.some.inj ho
              have e25' : a.tmps[46]? = some (.bool true) := hd 25 rfl (by decide)
              have e26' : a.tmps[47]? = some (.slice (some ⟨b3, off3, none⟩) (k + 1) (c3 + 1)) := hd 26 rfl (by decide)
              clear hd ho hout hX
              refine wpOp_step rfl (fun K' hK' => ?_)
              go_simp
              exact hK' _ _ ⟨fun _ => rfl, fun h => absurd h (by decide), Below.refl _ _⟩
            | 28, ho =>
              obtain rfl := Option.some.inj ho
              have e25' : a.tmps[46]? = some (.bool true) := hd 25 rfl (by decide)
              have f1 : a.tmps[1]? = some (.pointer (some ⟨w.heap.size, 0, none⟩)) := (hout 1 (by decide)).trans HF1.out
              clear hd ho hout hX
              refine wpOp_step rfl (fun K' hK' => ?_)
              obtain ⟨⟨q0, q1, q2, q3, q4⟩, -, -⟩ := HX.out _ hu
              go_simp
              exact hK' _ _ ⟨fun _ => rfl, fun h => absurd h (by decide), Below.refl _ _⟩
            | 29, ho =>
              obtain rfl := Option.some.inj ho
              have e25' : a.tmps[46]? = some (.bool true) := hd 25 rfl (by decide)
              have f4 : a.tmps[4]? = some (.pointer (some ⟨wr.heap.size, 0, none⟩)) := (hout 4 (by decide)).trans HF4.out
              clear hd ho hout hX
              refine wpOp_step rfl (fun K' hK' => ?_)
              go_simp
              exact hK' _ _ ⟨fun _ => rfl, fun h => absurd h (by decide), Below.refl _ _⟩
            | 30, ho =>
              obtain rfl := Option.some.inj ho
              have e25' : a.tmps[46]? = some (.bool true) := hd 25 rfl (by decide)
              have e29' : a.tmps[50]? = some (.pointer (some ⟨wr.heap.size, 1, none⟩)) := hd 29 rfl (by decide)
              clear hd ho hout hX
              refine wpOp_step rfl (fun K' hK' => ?_)
              obtain ⟨⟨q0, q1, q2, q3, q4⟩, -, -⟩ := HX.out _ hu
              go_simp
              exact hK' _ _ ⟨fun _ => rfl, fun h => absurd h (by decide), Below.refl _ _⟩
            | 31, ho =>
              obtain rfl := Option.some.inj ho
              have e25' : a.tmps[46]? = some (.bool true) := hd 25 rfl (by decide)
              have e28' : a.tmps[49]? = some (.agg #[.slice ta n tcap, .slice (some ⟨b, off, none⟩) m ccap]) := hd 28 rfl (by decide)
              have e30' : a.tmps[51]? = some (.string U) := hd 30 rfl (by decide)
              clear hd ho hout hX
              refine wpOp_step rfl (fun K' hK' => ?_)
              go_simp
              refine (HC2.out _ (HX.out _ hu).2.1).mono ?_
              rintro e w4 ⟨v4, rfl, hown4, hb4⟩
              exact hK' _ _ ⟨fun h => absurd rfl h, fun _ => ⟨v4, rfl, IsOwn.nms hown4⟩, hb4⟩
            | 32, ho =>
              obtain rfl := Option.some.inj ho
              have e25' : a.tmps[46]? = some (.bool true) := hd 25 rfl (by decide)
              have e27' : a.tmps[48]? = some (.slice (some ⟨b3, off3 + 1, none⟩) k c3) := hd 27 rfl (by decide)
              obtain ⟨hx, hg⟩ := hX rfl
              clear hd ho hout hX
              refine wpOp_step rfl (fun K' hK' => ?_)
              go_simp
              refine (HSAME.out u _ _ (HT2.out.below hu) hg).mono ?_
              rintro e w5 ⟨rfl, hb5⟩
              exact hK' _ _ ⟨fun _ => rfl, fun h => absurd h (by decide), hb5⟩
            | 33, ho =>
              obtain rfl := Option.some.inj ho
              have e25' : a.tmps[46]? = some (.bool true) := hd 25 rfl (by decide)
              have e32' : a.tmps[53]? = some (.bool true) := hd 32 rfl (by decide)
              clear hd ho hout hX
              refine wpOp_step rfl (fun K' hK' => ?_)
              go_simp
              exact hK' _ _ ⟨fun _ => rfl, fun h => absurd h (by decide), Below.refl _ _⟩
            | 34, ho =>
              obtain rfl := Option.some.inj ho
              have e21' : a.tmps[42]? = some (.bool false) := hd 21 rfl (by decide)
              have e25' : a.tmps[46]? = some (.bool true) := hd 25 rfl (by decide)
              have e33' : a.tmps[54]? = some (.bool false) := hd 33 rfl (by decide)
              clear hd ho hout hX
              refine wpOp_step rfl (fun K' hK' => ?_)
              go_simp
              exact hK' _ _ ⟨fun _ => rfl, fun h => absurd h (by decide), Below.refl _ _⟩
            | 35, ho =>
              obtain rfl := Option.some.inj ho
              have e21' : a.tmps[42]? = some (.bool false) := hd 21 rfl (by decide)
              have e34' : a.tmps[55]? = some (.bool false) := hd 34 rfl (by decide)
              clear hd ho hout hX
              refine wpOp_step rfl (fun K' hK' => ?_)
              go_simp
              exact hK' _ _ ⟨fun _ => rfl, fun h => absurd h (by decide), Below.refl _ _⟩
            | i + 36, ho => cases ho
          case fin =>
            intro X w5 hb5 hg5
            clear HSZ HF1 HF4 HF5 hg5
            rw [← HF.out]
            clear HF
            have HY5 := Lib.hid (HX.out _ hb5).2.2
            clear hb5
            simp only [setFrom, List.set_cons_succ, List.set_cons_zero, List.setIfInBounds_toArray]
            go_wp2_with fail
            go_roundw
            case rel => exact ⟨j + 1, by omega, by go_num, HY5⟩
            case measure => simp [intOf]; omega
      · obtain rfl : j = m := by omega
        have e1 : decide ((j : Int) < (j : Int)) = false := decide_eq_false (by omega)
        have e2 : decide (j < j) = false := decide_eq_false (by omega)
        go_wp2_with fail
        refine (HA.out _).mono ?_
        rintro e w3 ⟨rfl, hb⟩
        have HB3 := Lib.hid (HB.out.trans (hb.mono HB.out.size))
        clear hb
        go_wp2_with fail
        all_goals (go_ret; exact ⟨rfl, HB3.out⟩)

/-! The step from the walk to the row. -/
theorem own : ownKnob Try.prog.godebug = none := by kernel_rfl
theorem laidOut : laidOutB Try.prog = true := by kernel_rfl

set_option maxRecDepth 100000 in
theorem lifted (os : Os) (started : os.Started) (H : Type) (enc : TypeId × Value → H) (F : Stop.Interp) :
    ReturnsInHanded {} Try.checked os 8 .any ((Rows.OpenSpec.upto Rows.schemaChainsSpec).pre6 enc Try.prog Try.f8 Rows.schemaChainsUptoRow.domain false) (((Rows.OpenSpec.upto Rows.schemaChainsSpec).at F).post enc Try.prog Try.f8 false true false false) := by
  refine returnsInHanded_of_cond_sized (C := Try.checked) (s := Rows.OpenSpec.upto Rows.schemaChainsSpec) (k := Rows.uptoSmall) rfl own started (by kernel_rfl) Try.func8
    (OpenSpec.witness (enc := enc) (C := Try.checked) (s := Rows.OpenSpec.upto Rows.schemaChainsSpec) (k := Rows.uptoSmall) rfl false ⟨#[], #[.agg #[.slice none 0 0, .slice none 0 0]], []⟩ 8 (by kernel_rfl) (by kernel_rfl) (by kernel_rfl)
      (x := ([.agg [.nil, .nil]], [], [])) (by kernel_rfl) rfl (by kernel_rfl)) ?_
  intro W base args ds gs before hval0 hW _ hk hsz0 _
  have hsz : (DataW.weightsEach Try.prog (Try.f8.params.toList ++ Rows.schemaChainsSpec.plain.varTypes Try.prog) (ds ++ gs)).all (· ≤ reachBytes) = true := hsz0
  have hval : ∀ (j : Nat) t v, Try.f8.params[j]? = some t → args[j]? = some v → Value.okWide Try.prog W .any base t v := hval0
  have hW' := hW
  obtain ⟨p, q, hA0, hV, rfl, _, _⟩ := hW
  have hA : DataW.TrodAll enc Try.prog W 0 (fun _ => true) true Try.f8.params.toList args.toList ds p := hA0
  rw [Try.params8] at hA hval hsz
  obtain ⟨v0, vs0, d0, ds0, p0, q0, hargs, rfl, rfl, h0, r0⟩ := trodAll_cons hA
  obtain ⟨rfl, rfl, rfl⟩ := trodAll_nil r0
  obtain rfl : args = #[v0] := by cases args; simp_all
  obtain ⟨rfl, rfl⟩ := trodVars_none hV
  have k0 := h0
  have lt0 : ∀ x ∈ p0, x.block < W.heap.size := by obtain ⟨m, hm⟩ := k0; exact DataW.trod_lt m _ _ _ hm
  obtain ⟨tv0, cv0, s0, rfl, w0, z0⟩ := open_schS (j := 0) (hval 0 25 v0 rfl rfl) h0 rfl rfl hsz hk
  clear hA0 hval0
  simp only [List.append_nil] at hW'
  refine (walk s0 tv0 cv0 z0 W w0).mono fun e W' ⟨he, bel⟩ => ?_
  subst he
  exact ⟨_, rfl, _, _, _, [], _, [], hW', trodAll_mk1 (shut_bool Try.underlying4 _), (trodAll_cons_mk (Below.trod laidOut (by kernel_rfl) (of_decide_eq_true (by kernel_rfl)) k0 bel lt0) trodAll_mk0), rfl, bel.frame _, fun h => by cases h⟩

theorem proved : Rows.SchemaChainsUptoSaid :=
  OpenClaim.holds_of_cond 8 Try.f8 rfl rfl rfl rfl rfl rfl rfl ⟨rfl, rfl, rfl, rfl, rfl⟩ rfl rfl rfl rfl rfl (by kernel_rfl) Try.func8 (by kernel_rfl)
    (of_decide_eq_true (by kernel_rfl)) (by unfold Func.isWrapper; first | (rw [if_pos (by decide +kernel)]; kernel_rfl) | (rw [if_neg (by decide +kernel)]; exact ⟨rfl, rfl⟩))
    (fun os started H enc _ F => lifted os started H enc F)

#print axioms proved
end Go.Proofs.Ythkhicpkkmhfbaa.schemaChains
