/-
  SchemaChecks is proved: whether any schema may be, or what is wrong first. No condition.
-/
import Derived.Test.YthkhicpkkmhfbaaRows
import Derived.Test.YthkhicpkkmhfbaaScR
import Derived.Test.YthkhicpkkmhfbaaScEq
import Derived.Test.YthkhicpkkmhfbaaScTw
import Derived.Test.YthkhicpkkmhfbaaScX
import Derived.ProofKit
import Derived.OpenShut
import Derived.ShutString
import Derived.SizedLaws
namespace Go.Proofs.Ythkhicpkkmhfbaa.schemaChecks
open Go.ChangeShapes Go.WideShapes Go.ChangeAt Go.RowKit
open Go.ChangeMaps (open_string shut_string)
set_option linter.unusedVariables false

set_option maxRecDepth 100000 in
set_option maxHeartbeats 4000000 in
theorem walk (s : Mt.Sc) (tv cv : Value) (w : World) (h : IsSc w tv cv s) :
    Calls Try.prog 3 #[.agg #[tv, cv]] w fun e w' => e = .returned (.bool true) ∧ Below w.heap.size w w' := by
  have HA := Lib.hid (fun u => awake13_any u)
  have HC := Lib.hid (fun (u : World) (hb : Below w.heap.size w u) => check13_any (h.below hb))
  have HRC := Lib.hid (fun (hml : ∀ c ∈ s.classes, c.must.length + c.may.length ≤ 8796093022208) (u : World) (hb : Below w.heap.size w u) => rcheck13_any (h.below hb) hml)
  rw [Mt.rchk_eq] at HRC
  have H9 : Hid (200 < s.types.length ∨ 200 < s.classes.length → Mt.chk s = 9) := Lib.hid (fun hh => by unfold Mt.chk; rw [if_pos (by omega)])
  obtain ⟨ta, tcap, hv1, htc, HTS⟩ := h.types
  obtain ⟨ca, ccap, hv2, hcc, HCS⟩ := h.classes
  have hlt := h.tlen
  have hlc := h.clen
  have hcm := h.cnm
  have HCM := Lib.hid hcm
  obtain ⟨n, hn⟩ : ∃ n, s.types.length = n := ⟨_, rfl⟩
  obtain ⟨m, hm⟩ : ∃ m, s.classes.length = m := ⟨_, rfl⟩
  have HMM := Lib.hid hm
  rw [hn] at hv1 hlt htc H9
  rw [hm] at hv2 hlc hcc H9
  subst hv1 hv2
  obtain ⟨R, hR⟩ : ∃ R, Mt.chk s = R := ⟨_, rfl⟩
  rw [hR] at HC HRC H9
  obtain ⟨w1, hw1⟩ : ∃ w1, w.alloc (.cells #[.slice ta n tcap, .slice ca m ccap] 25) = w1 := ⟨_, rfl⟩
  have hA1 : Below w.heap.size w w1 := by rw [← hw1]; exact (Below.refl _ w).alloc (Nat.le_refl _) _
  have hs1 : w1.heap.size = w.heap.size + 1 := by rw [← hw1]; simp
  have hx1 : w1.heap[w.heap.size]? = some (.cells #[.slice ta n tcap, .slice ca m ccap] 25) := by rw [← hw1]; exact heap_alloc_new w _
  have HA1 := Lib.hid hA1
  have HP : Hid (∀ u, Below w1.heap.size w1 u → (u.cell? ⟨w.heap.size, 0, none⟩ = some (.slice ta n tcap) ∧ u.cell? ⟨w.heap.size, 1, none⟩ = some (.slice ca m ccap)) ∧ Below w.heap.size w u) := Lib.hid (fun u hu => by
    have r1 := (hu.block w.heap.size (by omega)).trans hx1
    exact ⟨⟨by rw [cell_of_row _ _ _ _ _ _ r1]; rfl, by rw [cell_of_row _ _ _ _ _ _ r1]; rfl⟩, hA1.trans (hu.mono hA1.size)⟩)
  obtain ⟨p0, p1⟩ := (HP.out w1 (Below.refl _ _)).1
  clear h hn hm hx1 hA1 hR hcm
  by_cases hbig : 200 < n ∨ 200 < m
  · have HE : Hid (R = 9) := Lib.hid (H9.out hbig)
    rw [HE.out] at HC
    by_cases hb1 : 200 < n
    · have d1 : decide ((200 : Int) < (n : Int)) = true := decide_eq_true (by omega)
      have d2 : decide (200 < n) = true := decide_eq_true hb1
      clear hbig hb1
      go_enter Try.func3, Try.ntmps3
      go_wp2_with fail
      refine (HA.out _).mono ?_
      rintro e w2 ⟨rfl, hb⟩
      have hW2 : Below w1.heap.size w1 w2 := hb
      clear p0 p1 hb
      obtain ⟨⟨p0, p1⟩, hB⟩ := HP.out w2 hW2
      have HB := Lib.hid hB
      clear hB hW2
      go_wp2_with fail
      refine (HC.out _ HB.out).mono ?_
      rintro e w3 ⟨rfl, hb⟩
      have HB3 := Lib.hid (HB.out.trans (hb.mono HB.out.size))
      go_wp2_with fail
      go_ret
      exact ⟨rfl, HB3.out⟩
    · have d1 : decide ((200 : Int) < (n : Int)) = false := decide_eq_false (by omega)
      have d2 : decide (200 < n) = false := decide_eq_false hb1
      have d3 : decide ((200 : Int) < (m : Int)) = true := decide_eq_true (by omega)
      have d4 : decide (200 < m) = true := decide_eq_true (by omega)
      clear hbig hb1
      go_enter Try.func3, Try.ntmps3
      go_wp2_with fail
      refine (HA.out _).mono ?_
      rintro e w2 ⟨rfl, hb⟩
      have hW2 : Below w1.heap.size w1 w2 := hb
      clear p0 p1 hb
      obtain ⟨⟨p0, p1⟩, hB⟩ := HP.out w2 hW2
      have HB := Lib.hid hB
      clear hB hW2
      go_wp2_with fail
      refine (HC.out _ HB.out).mono ?_
      rintro e w3 ⟨rfl, hb⟩
      have HB3 := Lib.hid (HB.out.trans (hb.mono HB.out.size))
      go_wp2_with fail
      go_ret
      exact ⟨rfl, HB3.out⟩
  have d1 : decide ((200 : Int) < (n : Int)) = false := decide_eq_false (by omega)
  have d2 : decide (200 < n) = false := decide_eq_false (by omega)
  have d3 : decide ((200 : Int) < (m : Int)) = false := decide_eq_false (by omega)
  have d4 : decide (200 < m) = false := decide_eq_false (by omega)
  clear hbig H9
  go_enter Try.func3, Try.ntmps3
  go_wp2_with fail
  go_loopw [24] (fun iv wr => ∃ j : Nat, j ≤ m ∧ iv = .int .i64 (j : Int) ∧ Hid (∀ x (hx : x < s.classes.length), x < j → s.classes[x].must.length + s.classes[x].may.length ≤ 8796093022208) ∧ Hid (Below w1.heap.size w1 wr)) (fun iv _ => m - (intOf iv).toNat)
  case atStart => exact ⟨0, Nat.zero_le _, rfl, Lib.hid (fun x hx h => absurd h (by omega)), Lib.hid (Below.refl _ _)⟩
  case round =>
    obtain ⟨j, hj, rfl, HI, HW⟩ := hrel
    clear p0 p1
    obtain ⟨⟨p0, p1⟩, hB⟩ := HP.out wr HW.out
    have HB := Lib.hid hB
    clear hB
    by_cases hlt2 : j < m
    · have e1 : decide ((j : Int) < (m : Int)) = true := decide_eq_true (by omega)
      have e2 : decide (j < m) = true := decide_eq_true hlt2
      have hit : j < s.classes.length := by rw [HMM.out]; exact hlt2
      obtain ⟨b, off, mv, yv, e0, hbl, h0, h1, h2, h3, h4, hmv, hyv⟩ := HCS.out j hit
      have hcm := HCM.out _ (List.getElem_mem hit)
      obtain ⟨am, cm, rfl, -, -⟩ := id hmv
      obtain ⟨ay, cy, rfl, -, -⟩ := id hyv
      subst e0
      obtain ⟨c, hc⟩ : ∃ c, s.classes[j] = c := ⟨_, rfl⟩
      rw [hc] at h0 h1 h2 h3 h4 hcm
      have y0 := (HB.out.cell (p := ⟨b, off + j * 5, none⟩) hbl).trans h0
      have y1 := (HB.out.cell (p := ⟨b, off + j * 5 + 1, none⟩) hbl).trans h1
      have y2 := (HB.out.cell (p := ⟨b, off + j * 5 + 2, none⟩) hbl).trans h2
      have y3 := (HB.out.cell (p := ⟨b, off + j * 5 + 3, none⟩) hbl).trans h3
      have y4 := (HB.out.cell (p := ⟨b, off + j * 5 + 4, none⟩) hbl).trans h4
      obtain ⟨ml, hml⟩ : ∃ q, c.must.length = q := ⟨_, rfl⟩
      obtain ⟨yl, hyl⟩ : ∃ q, c.may.length = q := ⟨_, rfl⟩
      rw [hml] at y3 hcm
      rw [hyl] at y4 hcm
      have hmlb := hcm.2.2.1
      have hylb := hcm.2.2.2.1
      have HCC := Lib.hid (And.intro hc (And.intro hml hyl))
      generalize Mt.str c.name = N at *
      generalize Mt.str c.sup = U at *
      generalize c.kind = kc at *
      obtain ⟨w2, hw2⟩ : ∃ u, wr.alloc (.cells #[.string N, .string U, .int .i64 kc, .slice am ml cm, .slice ay yl cy] 31) = u := ⟨_, rfl⟩
      have hb2 : Below wr.heap.size wr w2 := by rw [← hw2]; exact (Below.refl _ wr).alloc (Nat.le_refl _) _
      have hx2 : w2.heap[wr.heap.size]? = some (.cells #[.string N, .string U, .int .i64 kc, .slice am ml cm, .slice ay yl cy] 31) := by rw [← hw2]; exact heap_alloc_new wr _
      have HW2 := Lib.hid (HW.out.trans (hb2.mono HW.out.size))
      have HB2 := Lib.hid (HP.out w2 HW2.out).2
      have HX2 := Lib.hid (box5_of hx2).1
      have i0 : (0 : Int) ≤ (j : Int) := by omega
      have i1 : (j : Int) < (m : Int) := by omega
      clear h0 h1 h2 h3 h4 hbl hc hcm hml hyl hmv hyv hb2 hx2
      go_upto_region 6 with fail
      clear p0 p1
      obtain ⟨z0, z1, z2, z3, z4⟩ := HX2.out
      by_cases hm50 : 50 < ml
      · have f1 : decide ((50 : Int) < (ml : Int)) = true := decide_eq_true (by omega)
        have f2 : decide (50 < ml) = true := decide_eq_true hm50
        clear hm50
        go_wp2_with fail
        refine (HA.out _).mono ?_
        rintro e w3 ⟨rfl, hb⟩
        have HB3 := Lib.hid (HB2.out.trans (hb.mono HB2.out.size))
        clear hb
        go_wp2_with fail
        all_goals (go_ret; exact ⟨rfl, HB3.out⟩)
      · have f1 : decide ((50 : Int) < (ml : Int)) = false := decide_eq_false (by omega)
        have f2 : decide (50 < ml) = false := decide_eq_false hm50
        by_cases hy50 : 50 < yl
        · have f3 : decide ((50 : Int) < (yl : Int)) = true := decide_eq_true (by omega)
          have f4 : decide (50 < yl) = true := decide_eq_true hy50
          clear hm50 hy50
          go_wp2_with fail
          refine (HA.out _).mono ?_
          rintro e w3 ⟨rfl, hb⟩
          have HB3 := Lib.hid (HB2.out.trans (hb.mono HB2.out.size))
          clear hb
          go_wp2_with fail
          all_goals (go_ret; exact ⟨rfl, HB3.out⟩)
        · have f3 : decide ((50 : Int) < (yl : Int)) = false := decide_eq_false (by omega)
          have f4 : decide (50 < yl) = false := decide_eq_false hy50
          have HN : Hid (∀ x (hx : x < s.classes.length), x < j + 1 → s.classes[x].must.length + s.classes[x].may.length ≤ 8796093022208) := Lib.hid (fun x hx hxj => by
            by_cases e : x = j
            · subst e
              rw [HCC.out.1, HCC.out.2.1, HCC.out.2.2]; omega
            · exact HI.out x hx (by omega))
          clear hm50 hy50
          go_wp2_with fail
          go_roundw
          case rel => exact ⟨j + 1, by omega, by go_num, HN, HW2⟩
          case measure => simp [intOf]; omega
    · obtain rfl : j = m := by omega
      have e1 : decide ((j : Int) < (j : Int)) = false := decide_eq_false (by omega)
      have e2 : decide (j < j) = false := decide_eq_false (by omega)
      have HR := Lib.hid (HRC.out (fun c hc => by
        obtain ⟨x, hx, rfl⟩ := List.mem_iff_getElem.1 hc
        exact HI.out x hx (by rw [HMM.out] at hx; exact hx)))
      have hRR : (R == R) = true := beq_self_eq_true R
      clear HI HRC
      go_upto_region 9 with fail
      have HBd := Lib.hid HB.out.drew
      have HWd := Lib.hid HW.out.drew
      obtain ⟨⟨q0, q1⟩, -⟩ := HP.out _ HWd.out
      go_region_held3 (fun w' => w'.cell? ⟨w.heap.size, 0, none⟩ = some (.slice ta n tcap) ∧ w'.cell? ⟨w.heap.size, 1, none⟩ = some (.slice ca j ccap))
        (first
          | with_reducible exact ⟨p0, p1⟩
          | with_reducible exact ⟨q0, q1⟩
          | go_keep)
        (first
          | (go_at_call 9; (with_reducible refine (HA.out _).mono ?_); rintro e w3 ⟨rfl, hb⟩; have HBd := Lib.hid (HBd.out.trans (hb.mono HBd.out.size)); have HWd := Lib.hid (HWd.out.trans (hb.mono HWd.out.size)); clear hb p0 p1 q0 q1; obtain ⟨⟨q0, q1⟩, -⟩ := HP.out _ HWd.out; have p0 := q0; have p1 := q1)
          | (go_at_call 10; (with_reducible refine (HC.out _ HBd.out).mono ?_); rintro e w4 ⟨rfl, hb⟩; have HWd := Lib.hid (HWd.out.trans (hb.mono HWd.out.size)); have HBd := Lib.hid (HBd.out.trans (hb.mono HBd.out.size)); clear hb p0 p1 q0 q1; obtain ⟨⟨q0, q1⟩, -⟩ := HP.out _ HWd.out; have p0 := q0; have p1 := q1)
          | (go_at_call 11; (with_reducible refine (HR.out _ HBd.out).mono ?_); rintro e w5 ⟨rfl, hb⟩; have HWd := Lib.hid (HWd.out.trans (hb.mono HWd.out.size)); have HBd := Lib.hid (HBd.out.trans (hb.mono HBd.out.size)); clear hb p0 p1 q0 q1; obtain ⟨⟨q0, q1⟩, -⟩ := HP.out _ HWd.out; have p0 := q0; have p1 := q1))
      all_goals
        go_wp2_with fail
        go_ret
        exact ⟨rfl, HBd.out⟩

/-! The step from the walk to the row. -/
theorem own : ownKnob Try.prog.godebug = none := by kernel_rfl
theorem laidOut : laidOutB Try.prog = true := by kernel_rfl

set_option maxRecDepth 100000 in
theorem lifted (os : Os) (started : os.Started) (H : Type) (enc : TypeId × Value → H) :
    ReturnsInHanded {} Try.checked os 3 .any (Rows.schemaChecksSpec.pre6 enc Try.prog Try.f3 Rows.schemaChecksRow.domain false) (Rows.schemaChecksSpec.post enc Try.prog Try.f3 false true false false) := by
  refine returnsInHanded_of_change_sized (C := Try.checked) own started (by kernel_rfl) Try.func3
    (ChangeSpec.witness6 (enc := enc) (C := Try.checked) false ⟨#[], #[.agg #[.slice none 0 0, .slice none 0 0]], []⟩ 8 (by kernel_rfl) (by kernel_rfl) (by kernel_rfl) (by kernel_rfl)) ?_
  intro W base args ds gs before hval0 hW _ hsz0 _
  have hsz : (DataW.weightsEach Try.prog (Try.f3.params.toList ++ Rows.schemaChecksSpec.plain.varTypes Try.prog) (ds ++ gs)).all (· ≤ reachBytes) = true := hsz0
  have hval : ∀ (j : Nat) t v, Try.f3.params[j]? = some t → args[j]? = some v → Value.okWide Try.prog W .any base t v := hval0
  have hW' := hW
  obtain ⟨p, q, hA0, hV, rfl, _, _⟩ := hW
  have hA : DataW.TrodAll enc Try.prog W 0 (fun _ => true) true Try.f3.params.toList args.toList ds p := hA0
  rw [Try.params3] at hA hval hsz
  obtain ⟨v0, vs0, d0, ds0, p0, q0, hargs, rfl, rfl, h0, r0⟩ := trodAll_cons hA
  obtain ⟨rfl, rfl, rfl⟩ := trodAll_nil r0
  obtain rfl : args = #[v0] := by cases args; simp_all
  obtain ⟨rfl, rfl⟩ := trodVars_none hV
  have k0 := h0
  have lt0 : ∀ x ∈ p0, x.block < W.heap.size := by obtain ⟨m, hm⟩ := k0; exact DataW.trod_lt m _ _ _ hm
  obtain ⟨tv0, cv0, s0, rfl, w0⟩ := open_sch (j := 0) (hval 0 25 v0 rfl rfl) h0 rfl rfl hsz
  clear hA0 hval0
  simp only [List.append_nil] at hW'
  refine (walk s0 tv0 cv0  W w0).mono fun e W' ⟨he, bel⟩ => ?_
  subst he
  exact ⟨_, rfl, _, _, _, [], _, [], hW', trodAll_mk1 (shut_bool Try.underlying4 _), (trodAll_cons_mk (Below.trod laidOut (by kernel_rfl) (of_decide_eq_true (by kernel_rfl)) k0 bel lt0) trodAll_mk0), rfl, bel.frame _, fun h => by cases h⟩

theorem proved : Rows.SchemaChecksSaid :=
  OpenClaim.holds_of_wide 3 Try.f3 rfl rfl rfl rfl rfl rfl rfl ⟨rfl, rfl, rfl, rfl, rfl⟩ rfl rfl rfl rfl rfl (by kernel_rfl) Try.func3 (by kernel_rfl)
    (of_decide_eq_true (by kernel_rfl)) (by unfold Func.isWrapper; first | (rw [if_pos (by decide +kernel)]; kernel_rfl) | (rw [if_neg (by decide +kernel)]; exact ⟨rfl, rfl⟩))
    (fun os started H enc _ => lifted os started H enc)

#print axioms proved
end Go.Proofs.Ythkhicpkkmhfbaa.schemaChecks
